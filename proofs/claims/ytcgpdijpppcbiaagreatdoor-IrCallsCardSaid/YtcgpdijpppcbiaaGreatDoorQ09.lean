/- Merged of Eve Evf Evg. Own work. -/
import Derived.Test.YtcgpdijpppcbiaaGreatDoorQ08
import Derived.Test.YtcgpdijpppcbiaaGreatDoorQ04
import Derived.Laws.CopyOwn
namespace Go.Proofs.YtcgpdijpppcbiaaGreatDoor
open Go.RowKit
set_option linter.unusedVariables false
set_option linter.unusedSimpArgs false
namespace Ir
open Kc
/-- What is claimed of statements. -/
def StmC (pv sv : Value) (prog : List Fn) (D : Nat → Prop) (st : Int → Int → Int → Nat → Ef → Int → Nat → Ef → Sf → Sf → (Nat → Nat) → Nat → Rs → Option (Nat × (Nat → Nat) × Nat × Rs)) : Prop :=
  ∀ (kind n ao : Int) (an : Nat) (ak : Ef) (bo : Int) (bn : Nat) (bk : Ef) (body els : Sf) (L : Nat → Nat) (v : Nat) (s : Rs) (way : Nat) (L' : Nat → Nat) (v' : Nat) (s' : Rs), st kind n ao an ak bo bn bk body els L v s = some (way, L', v', s') →
  ∀ (w : World) (r f : Nat) (VA VB V8 V9 : Value), IsRun w r pv sv s → IsFr w f L v → SlP w D pv prog → SlE w D VA ak → SlE w D VB bk → SlS w D V8 body → SlS w D V9 els → an < 18446744073709551616 → bn < 18446744073709551616 → (∀ k, D k → k < w.heap.size ∧ k ≠ r ∧ k ≠ f) → r ≠ f →
  Calls Tryz.prog 66 #[.pointer (some ⟨r, 0, none⟩), .pointer (some ⟨f, 0, none⟩), .agg #[.int .i64 kind, .int .i64 n, .int .i64 ao, .int .u64 an, VA, .int .i64 bo, .int .u64 bn, VB, V8, V9]] w fun e w' => e = .returned (.int .i64 way) ∧ way < 3 ∧ IsRun w' r pv sv s' ∧ IsFr w' f L' v' ∧ Kept (fun k => k = r ∨ k = f) w w'
/-- The run, the frame and the program, as they are in the middle of a list. -/
structure Mid (W : World) (D : Nat → Prop) (pv sv : Value) (prog : List Fn) (r f : Nat) (L : Nat → Nat) (v : Nat) (s : Rs) (y : World) : Prop where
  run : IsRun y r pv sv s
  fr : IsFr y f L v
  pr : SlP y D pv prog
  kp : Kept (fun k => k = r ∨ k = f) W y
  d : ∀ k, D k → k < y.heap.size ∧ k ≠ r ∧ k ≠ f
section
variable {W y y' : World} {D : Nat → Prop} {pv sv : Value} {prog : List Fn} {r f : Nat} {L L' : Nat → Nat} {v v' : Nat} {s s' : Rs}
theorem Mid.next (h : Mid W D pv sv prog r f L v s y) (hk : Kept (fun _ => False) y y') : Mid W D pv sv prog r f L v s y' :=
  ⟨h.run.kept hk id, h.fr.kept hk id, h.pr.kept hk fun _ _ => id, h.kp.trans hk fun _ _ e => e.elim, fun k e => ⟨Nat.lt_of_lt_of_le (h.d k e).1 hk.size, (h.d k e).2⟩⟩
theorem Mid.turn (h : Mid W D pv sv prog r f L v s y) (hr : IsRun y' r pv sv s') (hf : IsFr y' f L' v') (hk : Kept (fun k => k = r ∨ k = f) y y') : Mid W D pv sv prog r f L' v' s' y' :=
  ⟨hr, hf, h.pr.kept hk fun k e => by rintro (e2 | e2); exact (h.d k e).2.1 e2; exact (h.d k e).2.2 e2, h.kp.trans hk fun _ _ e => e, fun k e => ⟨Nat.lt_of_lt_of_le (h.d k e).1 hk.size, (h.d k e).2⟩⟩
theorem Mid.not (h : Mid W D pv sv prog r f L v s y) : ∀ k, D k → ¬ (k = r ∨ k = f) := fun k e => by rintro (e2 | e2); exact (h.d k e).2.1 e2; exact (h.d k e).2.2 e2
end
section
variable {pv sv : Value} {prog : List Fn} {D : Nat → Prop}
theorem wrap_i {i : Nat} (h : i < 1099511627776) : wrap64 ((i : Int) + 1) = ((i + 1 : Nat) : Int) := by unfold wrap64; omega
/-- A statement of noughts. -/
abbrev zT : Array Value := #[.int .i64 0, .int .i64 0, .int .i64 0, .int .u64 0, .slice none 0 0, .int .i64 0, .int .u64 0, .slice none 0 0, .slice none 0 0, .slice none 0 0]
theorem meas9 {i n : Nat} (h : i < n) (hw : wrap64 ((i : Int) + 1) = ((i + 1 : Nat) : Int)) : n - (intOf (.int .i64 (wrap64 ((i : Int) + 1)))).toNat < n - (intOf (.int .i64 (i : Int))).toNat := by
  rw [hw]; simp only [intOf]; omega
set_option maxHeartbeats 4000000 in
set_option maxRecDepth 100000 in
theorem list_walk (rec : Sem) (g : Nat) (hS : StmC pv sv prog D (stepSt rec g)) : LstC pv sv prog D (evL rec g) := by
  intro x L v s way L' v' s' hx w r f V hr hf hp hV hD hrf
  obtain ⟨a, c, rfl, hl, hV⟩ := hV
  obtain ⟨n, hn⟩ : ∃ n, x.len = n := ⟨_, rfl⟩
  have HS := Lib.hid hS
  have HN := Lib.hid (And.intro hl hrf)
  have H0 : Hid (∃ y L1 v1 s1, 0 + y.len = n ∧ evL rec g y L1 v1 s1 = some (way, L', v', s') ∧ (y = .nil ∨ ∃ b o, a = some ⟨b, o, none⟩ ∧ SfAt w D y b (o + 0 * 10)) ∧ Mid w D pv sv prog r f L1 v1 s1 w) := Lib.hid ⟨x, L, v, s, by omega, hx, by simpa using hV, ⟨hr, hf, hp, Kept.refl _ _, hD⟩⟩
  rw [hn] at HN ⊢
  clear hS hx hr hf hp hV hD hl hn hrf
  go_enter Tryz.func54, Tryz.ntmps54
  go_upto_region 2 with (fail)
  go_loopw [12] (fun t wr => ∃ i : Nat, t = .int .i64 i ∧ Hid (∃ y L1 v1 s1, i + y.len = n ∧ evL rec g y L1 v1 s1 = some (way, L', v', s') ∧ (y = .nil ∨ ∃ b o, a = some ⟨b, o, none⟩ ∧ SfAt wr D y b (o + i * 10)) ∧ Mid w D pv sv prog r f L1 v1 s1 wr)) (fun t _ => n - (intOf t).toNat)
  case atStart => exact ⟨0, rfl, H0⟩
  case round =>
    obtain ⟨i, rfl, hp⟩ := hrel
    obtain ⟨y, L1, v1, s1, hi, hev, hat, hmid⟩ := hp.out
    clear hp H0
    have HM := Lib.hid hmid
    clear hmid
    cases y with
    | nil =>
      have t1 : decide (i < n) = false := by simp [Sf.len] at hi; simp; omega
      obtain ⟨rfl, rfl, rfl, rfl⟩ : way = 0 ∧ L' = L1 ∧ v' = v1 ∧ s' = s1 := by simp [evL] at hev; exact ⟨hev.1.symm, hev.2.1.symm, hev.2.2.1.symm, hev.2.2.2.symm⟩
      clear hi hev hat
      go_wp2_with (fail)
      exact bodyPost_ret (v := .int .i64 0) (by simp [results, Tryz.results54, go_sem]) rfl ⟨rfl, by decide, HM.out.run, HM.out.fr, HM.out.kp⟩
    | cons kind nn ao an ak bo bn bk body els rest =>
      obtain ⟨b, o, ha, hb⟩ : ∃ b o, a = some ⟨b, o, none⟩ ∧ SfAt wr D (.cons kind nn ao an ak bo bn bk body els rest) b (o + i * 10) := by
        rcases hat with h | h
        · cases h
        · exact h
      clear hat
      subst ha
      have hin : i < n := by simp [Sf.len] at hi; omega
      have t1 : decide (i < n) = true := by simp; omega
      have hi0 : (i : Int) < (n : Int) := by omega
      have HI : Hid (i + 1 + rest.len = n ∧ i < n ∧ wrap64 ((i : Int) + 1) = ((i + 1 : Nat) : Int)) := Lib.hid ⟨by simp [Sf.len] at hi; omega, hin, wrap_i (by have := HN.out.1; omega)⟩
      unfold SfAt at hb
      obtain ⟨h1, h2, h3, h4, h5, h6, h7, ⟨VA, h8, h9⟩, h10, h11, ⟨VB, h12, h13⟩, ⟨a8, c8, h14, l8, h15⟩, ⟨a9, c9, h16, l9, h17⟩, h18⟩ := hb
      obtain ⟨aA, cA, rfl, lA, hA⟩ := h9
      obtain ⟨aB, cB, rfl, lB, hB⟩ := h13
      have HL := Lib.hid (loadT h4 h5 h6 h7 h8 h10 h11 h12 h14 h16)
      have HD := Lib.hid (And.intro h2 (And.intro h3 (And.intro (show SlE wr D (.slice aA ak.len cA) ak from ⟨aA, cA, rfl, lA, hA⟩) (And.intro (show SlE wr D (.slice aB bk.len cB) bk from ⟨aB, cB, rfl, lB, hB⟩) (And.intro (show SlS wr D (.slice a8 body.len c8) body from ⟨a8, c8, rfl, l8, h15⟩) (And.intro (show SlS wr D (.slice a9 els.len c9) els from ⟨a9, c9, rfl, l9, h17⟩) h18))))))
      clear h1 h2 h3 h4 h5 h6 h7 h8 h10 h11 h12 h14 h15 h16 h17 h18 l8 l9 hi hin lA hA lB hB
      cases hst : stepSt rec g kind nn ao an ak bo bn bk body els L1 v1 s1 with
      | none => simp [evL, hst] at hev
      | some res =>
        obtain ⟨way1, L2, v2, s2⟩ := res
        have HEV : Hid ((if way1 = 0 then evL rec g rest L2 v2 s2 else some (way1, L2, v2, s2)) = some (way, L', v', s')) := Lib.hid (by simpa [evL, hst] using hev)
        clear hev
        have hk1 : Kept (fun _ => False) wr (wr.alloc (.cells #[.int .i64 kind, .int .i64 nn, .int .i64 ao, .int .u64 an, .slice aA ak.len cA, .int .i64 bo, .int .u64 bn, .slice aB bk.len cB, .slice a8 body.len c8, .slice a9 els.len c9] 35)) := (Kept.refl _ wr).alloc _
        have HL2 := Lib.hid (Bt10.new wr (.int .i64 kind) (.int .i64 nn) (.int .i64 ao) (.int .u64 an) (.slice aA ak.len cA) (.int .i64 bo) (.int .u64 bn) (.slice aB bk.len cB) (.slice a8 body.len c8) (.slice a9 els.len c9) 35).load
        have HM1 := Lib.hid (HM.out.next hk1)
        have HD1 := Lib.hid (SfAt.kept hk1 (fun _ _ => id) rest b (o + i * 10 + 10) HD.out.2.2.2.2.2.2)
        have HC := Lib.hid (HS.out kind nn ao an ak bo bn bk body els L1 v1 s1 way1 L2 v2 s2 hst _ r f _ _ _ _ HM1.out.run HM1.out.fr HM1.out.pr (HD.out.2.2.1.kept hk1 fun _ _ => id) (HD.out.2.2.2.1.kept hk1 fun _ _ => id) (HD.out.2.2.2.2.1.kept hk1 fun _ _ => id) (HD.out.2.2.2.2.2.1.kept hk1 fun _ _ => id) HD.out.1 HD.out.2.1 HM1.out.d HN.out.2)
        have HI9 : Hid ((Tryz.prog.info? 35).map (·.size) = some (#[.int .i64 kind, .int .i64 nn, .int .i64 ao, .int .u64 an, .slice aA ak.len cA, .int .i64 bo, .int .u64 bn, .slice aB bk.len cB, .slice a8 body.len c8, .slice a9 els.len c9] : Array Value).size ∧ zT.size = (#[.int .i64 kind, .int .i64 nn, .int .i64 ao, .int .u64 an, .slice aA ak.len cA, .int .i64 bo, .int .u64 bn, .slice aB bk.len cB, .slice a8 body.len c8, .slice a9 els.len c9] : Array Value).size ∧ (#[.int .i64 kind, .int .i64 nn, .int .i64 ao, .int .u64 an, .slice aA ak.len cA, .int .i64 bo, .int .u64 bn, .slice aB bk.len cB, .slice a8 body.len c8, .slice a9 els.len c9] : Array Value).all (·.oneCell') = true) := Lib.hid ⟨infT, rfl, by simp [Value.oneCell']⟩
        clear hst hk1 HM HD
        generalize (#[.int .i64 kind, .int .i64 nn, .int .i64 ao, .int .u64 an, .slice aA ak.len cA, .int .i64 bo, .int .u64 bn, .slice aB bk.len cB, .slice a8 body.len c8, .slice a9 els.len c9] : Array Value) = ag at *
        go_upto_region 4 with (first
          | ((with_reducible refine wpList_loadE (P := Tryz.prog) (w := wr) (ty := 35) (x := .tmp 14) (p := .pointer (some ⟨b, o + i * 10, none⟩)) (v := .agg ag) ?_ ?_ ?_ HL.out ?_); (· exact rfl); (· exact rfl); (· exact rfl))
          | ((with_reducible refine wpList_store_row (P := Tryz.prog) (w := wr.alloc (.cells zT 35)) ?_ 35 (.tmp 8) (.tmp 15) ?_ wr.heap.size ag ?_ ?_ 35 zT (heap_alloc_last wr _) HI9.out.1 HI9.out.2.1 HI9.out.2.2 ?_); (· exact rfl); (· exact rfl); (· exact rfl); (· exact rfl); rw [World.setRow_alloc_new]; simp only [Act.put]))
        clear HL
        generalize wr.alloc (.cells ag 35) = y1 at *
        generalize wr.heap.size = qa at *
        go_upto_region 5 with (first
          | ((with_reducible refine wpList_loadE (P := Tryz.prog) (w := y1) (ty := 35) (x := .tmp 8) (p := .pointer (some ⟨qa, 0, none⟩)) (v := .agg ag) ?_ ?_ ?_ HL2.out ?_); (· exact rfl); (· exact rfl); (· exact rfl))
          | (go_at_call 66; (with_reducible refine HC.out.mono ?_); rintro e y2 ⟨he, hw3, hr2, hf2, hk2⟩; obtain rfl : e = _ := he; have HM2 := Lib.hid (And.intro hw3 (And.intro (HM1.out.turn hr2 hf2 hk2) (SfAt.kept hk2 HM1.out.not rest b (o + i * 10 + 10) HD1.out))); clear hw3 hr2 hf2 hk2 HC))
        clear HL2 HM1 HD1
        obtain hw0 | hw0 | hw0 : way1 = 0 ∨ way1 = 1 ∨ way1 = 2 := by have := HM2.out.1; omega
        · subst hw0
          have hw1 := HI.out.2.2
          go_wp2_with (fail)
          go_roundw
          case rel => exact ⟨i + 1, by go_num, Lib.hid ⟨rest, L2, v2, s2, HI.out.1, by simpa using HEV.out, .inr ⟨b, o, rfl, by have := HM2.out.2.2; rwa [show o + (i + 1) * 10 = o + i * 10 + 10 from by omega]⟩, HM2.out.2.1⟩⟩
          case measure => exact meas9 HI.out.2.1 HI.out.2.2
        · subst hw0
          obtain ⟨rfl, rfl, rfl, rfl⟩ : way = 1 ∧ L' = L2 ∧ v' = v2 ∧ s' = s2 := by have := HEV.out; simp at this; exact ⟨this.1.symm, this.2.1.symm, this.2.2.1.symm, this.2.2.2.symm⟩
          go_wp2_with (fail)
          exact bodyPost_ret (v := .int .i64 1) (by simp [results, Tryz.results54, go_sem]) rfl ⟨rfl, by decide, HM2.out.2.1.run, HM2.out.2.1.fr, HM2.out.2.1.kp⟩
        · subst hw0
          obtain ⟨rfl, rfl, rfl, rfl⟩ : way = 2 ∧ L' = L2 ∧ v' = v2 ∧ s' = s2 := by have := HEV.out; simp at this; exact ⟨this.1.symm, this.2.1.symm, this.2.2.1.symm, this.2.2.2.symm⟩
          go_wp2_with (fail)
          exact bodyPost_ret (v := .int .i64 2) (by simp [results, Tryz.results54, go_sem]) rfl ⟨rfl, by decide, HM2.out.2.1.run, HM2.out.2.1.fr, HM2.out.2.1.kp⟩
end
end Ir
end Go.Proofs.YtcgpdijpppcbiaaGreatDoor
namespace Go.Proofs.YtcgpdijpppcbiaaGreatDoor
open Go.RowKit
set_option linter.unusedVariables false
set_option linter.unusedSimpArgs false
namespace Ir
open Kc
/-- A value of noughts alone, built. -/
theorem wpList_buildN {P : Program} {ops : Array Oper} {rest : List Oper} {o : Oper} {a : Act} {w : World} {Q : Exit → Act → World → Prop} (hg : o.guard = none) (t : TypeId) (ho : o.op = .build t #[])
    (v : Value) (hl : (Instr.build t #[]).run P w = .ok v w) (h : wpList P ops Q rest (a.put o.dst v) w) : wpList P ops Q (o :: rest) a w :=
  wpList_plain hg fun _ hK => by
    unfold Oper.wp execOp
    simp only [ho]
    simp [hl, Result.andThen]
    exact hK _ _ h
/-- Words handed on. -/
def Aw (w : World) (AV : Value) (m : Nat) (A : Nat → Nat) : Prop := ∃ a c, AV = .slice a m c ∧ m ≤ 24 ∧ (m = 0 ∨ ∃ b o, a = some ⟨b, o, none⟩ ∧ ∀ i, i < m → w.cell? ⟨b, o + i, none⟩ = some (.int .u64 (A i)))
theorem buildF0 (w : World) : (Instr.build 121 #[]).run Tryz.prog w = .ok (.agg (tab 25 (fc (fun _ => 0) 0))) w := by kernel_rfl
theorem und64 : Tryz.prog.underlying 39 = some (.slice 22) := by kernel_rfl
theorem size64 : (Tryz.prog.info? 22).map (·.size) = some 1 := by kernel_rfl
theorem sl24 (q : Nat) (w : World) : (Instr.sliceAt 119 (.pointer (some ⟨q, 0, none⟩)) none none none).run Tryz.prog w = .ok (.slice (some ⟨q, 0, none⟩) 24 24) w := by
  simp [go_sem, Tryz.underlying119]
section
variable {pv sv : Value} {prog : List Fn} {D : Nat → Prop}
theorem fc_args (m : Nat) (A : Nat → Nat) (hm : m ≤ 24) (i : Nat) : splv (fc (fun _ => 0) 0) 0 m (fun j => .int .u64 (A j)) i = fc (fun i => if i < m then A i else 0) 0 i := by
  unfold splv fc
  by_cases h : i < m
  · rw [if_pos ⟨Nat.zero_le _, by omega⟩, if_pos (by omega)]; simp [h]
  · rw [if_neg (by omega)]; simp [h]
set_option maxHeartbeats 4000000 in
set_option maxRecDepth 100000 in
theorem call_walk (rec : Sem) (hL : LstC pv sv prog D rec.lst) (n m : Nat) (A : Nat → Nat) (s : Rs) (v : Nat) (ok : Bool) (s' : Rs) (h : stepCall prog rec n m A s = some (v, ok, s'))
    (w : World) (r : Nat) (AV : Value) (hr : IsRun w r pv sv s) (hp : SlP w D pv prog) (ha : Aw w AV m A) (hA : ∀ i, A i < 18446744073709551616) (hD : ∀ k, D k → k < w.heap.size ∧ k ≠ r) :
    Calls Tryz.prog 32 #[.pointer (some ⟨r, 0, none⟩), .int .u64 n, AV] w fun e w' => e = .returned (.tuple #[.int .u64 v, .bool ok]) ∧ v < 18446744073709551616 ∧ IsRun w' r pv sv s' ∧ Kept (fun k => k = r) w w' := by
  obtain ⟨fn, hfn, way, L9, v9, s9, hst, hend⟩ : ∃ fn, prog[n]? = some fn ∧ ∃ way L9 v9 s9, rec.lst fn.body (fun i => if i < m then A i else 0) 0 s = some (way, L9, v9, s9) ∧ (if way = 2 then (0, false, s9) else (v9, true, s9)) = (v, ok, s') := by
    unfold stepCall at h
    cases h1 : prog[n]? with
    | none => rw [h1] at h; cases h
    | some fn =>
      rw [h1] at h
      dsimp only at h
      cases h2 : rec.lst fn.body (fun i => if i < m then A i else 0) 0 s with
      | none => rw [h2] at h; cases h
      | some q =>
        obtain ⟨way, L9, v9, s9⟩ := q
        rw [h2] at h
        dsimp only at h
        refine ⟨fn, rfl, way, L9, v9, s9, h2, ?_⟩
        split at h <;> simp_all
  obtain ⟨a, c, rfl, hm, ha⟩ := ha
  have hp2 := hp
  obtain ⟨pa, pc, hpv, hpl, hpp⟩ := hp2
  obtain ⟨pb, po, rfl, hF⟩ : ∃ b o, pa = some ⟨b, o, none⟩ ∧ FnAt w D fn b (o + 3 * n) := by
    rcases hpp with e | ⟨b, o, e, hF⟩
    · rw [e] at hfn; simp at hfn
    · exact ⟨b, o, e, hF n fn hfn⟩
  obtain ⟨f1, f2, f3, VB, f4, f5⟩ := hF
  have hnp : n < prog.length := by
    rw [List.getElem?_eq_some_iff] at hfn
    exact hfn.1
  obtain ⟨np, hnp2⟩ : ∃ x, prog.length = x := ⟨_, rfl⟩
  rw [hnp2] at hpv hnp
  have hn0 : (n : Int) < (np : Int) := by omega
  have hb0 : Kept (fun _ => False) w (w.alloc (.cells (tab 25 (fc (fun _ => 0) 0)) 121)) := (Kept.refl _ w).alloc _
  have HT : Hid (IsTab (w.alloc (.cells (tab 25 (fc (fun _ => 0) 0)) 121)) w.heap.size 121 25 (fc (fun _ => 0) 0)) := Lib.hid (IsTab.new w _ 25 _)
  have HA : Hid (m ≤ 24 ∧ (m = 0 ∨ ∃ b o, a = some ⟨b, o, none⟩ ∧ ∀ i, i < m → (w.alloc (.cells (tab 25 (fc (fun _ => 0) 0)) 121)).cell? ⟨b, o + i, none⟩ = some (.int .u64 (A i)))) := Lib.hid ⟨hm, by
    rcases ha with e | ⟨b, o, e, h9⟩
    · exact .inl e
    · exact .inr ⟨b, o, e, fun i hi => hb0.cell id (h9 i hi)⟩⟩
  have HBF := Lib.hid (buildF0 w)
  have H0 := Lib.hid (And.intro hr (And.intro hp (And.intro hD (And.intro hA (And.intro f5 (And.intro f1 (And.intro (show w.cell? ⟨pb, po + n * 3 + 2, none⟩ = some VB by rw [Nat.mul_comm]; exact f4) (And.intro hst hend))))))))
  have HB0 := Lib.hid hb0
  have HPV := Lib.hid hpv
  clear hr hp hD hA f1 f2 f3 f4 f5 hst hend ha hm hb0 h hpp hpv hpl hfn hnp
  generalize hz : (tab 25 (fc (fun _ => 0) 0)) = ck at *
  have HZ := Lib.hid hz
  clear hz
  go_enter Tryz.func32, Tryz.ntmps32
  go_upto_region 2 with ((with_reducible refine wpList_buildN (P := Tryz.prog) (w := w) ?_ 121 ?_ (.agg ck) HBF.out ?_); (· exact rfl); (· exact rfl))
  generalize w.alloc (.cells ck 121) = y0 at *
  have s1 := sl24 w.heap.size
  have HQ : Hid (w.heap.size ≤ w.heap.size ∧ w.heap.size < y0.heap.size) := Lib.hid ⟨Nat.le_refl _, HT.out.lt⟩
  generalize hq : w.heap.size = q at HQ HT s1
  have HQ : Hid (w.heap.size = q ∧ q < y0.heap.size) := Lib.hid ⟨hq, HQ.out.2⟩
  clear hq
  rcases HA.out.2 with hm0 | ⟨b, o, rfl, hcells⟩
  · subst hm0
    go_upto_region 3 with (refine wpList_copy_nothing rfl (.tmp 14) (.tmp 15) 39 39 rfl 22 und64 size64 (some ⟨q, 0, none⟩) a 24 24 0 c rfl rfl rfl ?_)
    clear s1
    have HFK : Hid (IsFr y0 q (fun i => if i < 0 then A i else 0) 0 ∧ Kept (fun _ => False) w y0) := Lib.hid ⟨⟨HT.out.cong fun i hi => by unfold fc; simp, fun i => by simp, by decide⟩, HB0.out⟩
    have HY := Lib.hid (And.intro HFK.out.1 HFK.out.2)
    have HRY := Lib.hid (H0.out.1.kept HFK.out.2 id)
    have HC := Lib.hid (hL fn.body (fun i => if i < 0 then A i else 0) 0 s way L9 v9 s9 H0.out.2.2.2.2.2.2.2.1 y0 r q VB HRY.out HFK.out.1 (H0.out.2.1.kept HFK.out.2 fun _ _ => id) (H0.out.2.2.2.2.1.kept HFK.out.2 fun _ _ => id) (fun k hk => ⟨Nat.lt_of_lt_of_le (H0.out.2.2.1 k hk).1 HFK.out.2.size, (H0.out.2.2.1 k hk).2, fun e => by have := (H0.out.2.2.1 k hk).1; have := HQ.out.1; omega⟩) (fun e => by have := H0.out.1.lt; have := HQ.out.1; omega))
    have kp : y0.cell? ⟨r, 0, none⟩ = some (.slice (some ⟨pb, po, none⟩) np pc) := HPV.out ▸ HRY.out.p
    have kb : y0.cell? ⟨pb, po + n * 3 + 2, none⟩ = some VB := HFK.out.2.cell id H0.out.2.2.2.2.2.2.1
    by_cases h2 : way = 2
    · have tw : ((way : Int) == 2) = true := by simp [h2]
      obtain ⟨rfl, rfl, rfl⟩ : 0 = v ∧ false = ok ∧ s9 = s' := by have := H0.out.2.2.2.2.2.2.2.2; simpa [h2] using this
      clear h2
      go_wp2_with (go_at_call 54; (with_reducible refine HC.out.mono ?_); rintro e y3 ⟨he, hw3, hr3, hf3, hk3⟩; obtain rfl : e = _ := he; have H3 := Lib.hid (And.intro hw3 (And.intro hr3 (And.intro hf3 hk3))); have k24 := hf3.vl; clear hw3 hr3 hf3 hk3 HC)
      have HK3 : Kept (fun k => k = r) w y3 := (HFK.out.2.mono fun _ _ h => h.elim).trans H3.out.2.2.2 fun k hk h => by rcases h with h | h; exact h; have := HQ.out.1; omega
      exact bodyPost_ret (v := .tuple #[.int .u64 0, .bool false]) (by simp [results, Tryz.results32, go_sem]) rfl ⟨rfl, by decide, H3.out.2.1, HK3⟩
    · have tw : ((way : Int) == 2) = false := by simp; omega
      obtain ⟨rfl, rfl, rfl⟩ : v9 = v ∧ true = ok ∧ s9 = s' := by have := H0.out.2.2.2.2.2.2.2.2; simpa [h2] using this
      clear h2
      go_wp2_with (go_at_call 54; (with_reducible refine HC.out.mono ?_); rintro e y3 ⟨he, hw3, hr3, hf3, hk3⟩; obtain rfl : e = _ := he; have H3 := Lib.hid (And.intro hw3 (And.intro hr3 (And.intro hf3 hk3))); have k24 := hf3.vl; clear hw3 hr3 hf3 hk3 HC)
      have HK3 : Kept (fun k => k = r) w y3 := (HFK.out.2.mono fun _ _ h => h.elim).trans H3.out.2.2.2 fun k hk h => by rcases h with h | h; exact h; have := HQ.out.1; omega
      exact bodyPost_ret (v := .tuple #[.int .u64 v9, .bool true]) (by simp [results, Tryz.results32, go_sem]) rfl ⟨rfl, H3.out.2.2.1.val, H3.out.2.1, HK3⟩
  · have HCE := Lib.hid hcells
    clear hcells
    go_upto_region 3 with (refine wpList_copy_tab rfl (.tmp 14) (.tmp 15) 39 39 rfl 22 und64 size64 q 0 24 24 ⟨b, o, none⟩ m c rfl rfl 121 25 (fc (fun _ => 0) 0) HT.out m (by have := HA.out.1; omega) (fun j => .int .u64 (A j)) (fun j hj => by rw [add_at]; exact HCE.out j hj) (by have := HA.out.1; omega) (fun _ => rfl) ?_)
    have HFK : Hid (IsFr (World.setRow y0 q (tab 25 (splv (fc (fun _ => 0) 0) 0 m fun j => .int .u64 (A j)))) q (fun i => if i < m then A i else 0) 0 ∧ Kept (fun _ => False) w (World.setRow y0 q (tab 25 (splv (fc (fun _ => 0) 0) 0 m fun j => .int .u64 (A j))))) :=
      Lib.hid ⟨⟨(IsTab.row (f := fc (fun _ => 0) 0) HT.out).cong fun i hi => fc_args m A HA.out.1 i, fun i => by split; exact H0.out.2.2.2.1 i; decide, by decide⟩, Kept.ofBelow (below_setRow (HB0.out.below (Nat.le_refl _) fun _ _ h => h.elim) (by have := HQ.out.1; omega) _)⟩
    clear s1
    generalize World.setRow y0 q (tab 25 (splv (fc (fun _ => 0) 0) 0 m fun j => .int .u64 (A j))) = y9 at *
    have HY := Lib.hid (And.intro HFK.out.1 HFK.out.2)
    have HRY := Lib.hid (H0.out.1.kept HFK.out.2 id)
    have HC := Lib.hid (hL fn.body (fun i => if i < m then A i else 0) 0 s way L9 v9 s9 H0.out.2.2.2.2.2.2.2.1 y9 r q VB HRY.out HFK.out.1 (H0.out.2.1.kept HFK.out.2 fun _ _ => id) (H0.out.2.2.2.2.1.kept HFK.out.2 fun _ _ => id) (fun k hk => ⟨Nat.lt_of_lt_of_le (H0.out.2.2.1 k hk).1 HFK.out.2.size, (H0.out.2.2.1 k hk).2, fun e => by have := (H0.out.2.2.1 k hk).1; have := HQ.out.1; omega⟩) (fun e => by have := H0.out.1.lt; have := HQ.out.1; omega))
    have kp : y9.cell? ⟨r, 0, none⟩ = some (.slice (some ⟨pb, po, none⟩) np pc) := HPV.out ▸ HRY.out.p
    have kb : y9.cell? ⟨pb, po + n * 3 + 2, none⟩ = some VB := HFK.out.2.cell id H0.out.2.2.2.2.2.2.1
    by_cases h2 : way = 2
    · have tw : ((way : Int) == 2) = true := by simp [h2]
      obtain ⟨rfl, rfl, rfl⟩ : 0 = v ∧ false = ok ∧ s9 = s' := by have := H0.out.2.2.2.2.2.2.2.2; simpa [h2] using this
      clear h2
      go_wp2_with (go_at_call 54; (with_reducible refine HC.out.mono ?_); rintro e y3 ⟨he, hw3, hr3, hf3, hk3⟩; obtain rfl : e = _ := he; have H3 := Lib.hid (And.intro hw3 (And.intro hr3 (And.intro hf3 hk3))); have k24 := hf3.vl; clear hw3 hr3 hf3 hk3 HC)
      have HK3 : Kept (fun k => k = r) w y3 := (HFK.out.2.mono fun _ _ h => h.elim).trans H3.out.2.2.2 fun k hk h => by rcases h with h | h; exact h; have := HQ.out.1; omega
      exact bodyPost_ret (v := .tuple #[.int .u64 0, .bool false]) (by simp [results, Tryz.results32, go_sem]) rfl ⟨rfl, by decide, H3.out.2.1, HK3⟩
    · have tw : ((way : Int) == 2) = false := by simp; omega
      obtain ⟨rfl, rfl, rfl⟩ : v9 = v ∧ true = ok ∧ s9 = s' := by have := H0.out.2.2.2.2.2.2.2.2; simpa [h2] using this
      clear h2
      go_wp2_with (go_at_call 54; (with_reducible refine HC.out.mono ?_); rintro e y3 ⟨he, hw3, hr3, hf3, hk3⟩; obtain rfl : e = _ := he; have H3 := Lib.hid (And.intro hw3 (And.intro hr3 (And.intro hf3 hk3))); have k24 := hf3.vl; clear hw3 hr3 hf3 hk3 HC)
      have HK3 : Kept (fun k => k = r) w y3 := (HFK.out.2.mono fun _ _ h => h.elim).trans H3.out.2.2.2 fun k hk h => by rcases h with h | h; exact h; have := HQ.out.1; omega
      exact bodyPost_ret (v := .tuple #[.int .u64 v9, .bool true]) (by simp [results, Tryz.results32, go_sem]) rfl ⟨rfl, H3.out.2.2.1.val, H3.out.2.1, HK3⟩
end
end Ir
end Go.Proofs.YtcgpdijpppcbiaaGreatDoor
namespace Go.Proofs.YtcgpdijpppcbiaaGreatDoor
open Go.RowKit
set_option linter.unusedVariables false
set_option linter.unusedSimpArgs false
namespace Ir
open Kc
theorem least {P : Nat → Prop} : ∀ k, P k → ∃ m, P m ∧ ∀ j, P j → m ≤ j
  | 0, h => ⟨0, h, fun j _ => Nat.zero_le j⟩
  | k + 1, h => by
    by_cases h2 : ∃ j, j ≤ k ∧ P j
    · obtain ⟨j, hj, hp⟩ := h2
      have : ∀ n, ∀ j, j ≤ n → P j → ∃ m, P m ∧ ∀ j, P j → m ≤ j := by
        intro n
        induction n with
        | zero => intro j hj hp; have : j = 0 := by omega
                  subst this; exact ⟨0, hp, fun j _ => Nat.zero_le j⟩
        | succ n ih =>
          intro j hj hp
          by_cases h3 : ∃ i, i ≤ n ∧ P i
          · obtain ⟨i, hi, hpi⟩ := h3; exact ih i hi hpi
          · refine ⟨j, hp, fun i hpi => ?_⟩
            have : ¬ i ≤ n := fun h4 => h3 ⟨i, h4, hpi⟩
            omega
      exact this k j hj hp
    · exact ⟨k + 1, h, fun j hj => by have : ¬ j ≤ k := fun h4 => h2 ⟨j, h4, hj⟩
                                      omega⟩
open Classical in
noncomputable def mu (P : Nat → Prop) : Nat := if h : ∃ k, P k then Classical.choose (least h.choose h.choose_spec) else 0
theorem mu_spec {P : Nat → Prop} (h : ∃ k, P k) : P (mu P) ∧ ∀ j, P j → mu P ≤ j := by
  unfold mu; rw [dif_pos h]; exact Classical.choose_spec (least h.choose h.choose_spec)
theorem Mid.turnR {W y y' : World} {D : Nat → Prop} {pv sv : Value} {prog : List Fn} {r f : Nat} {L : Nat → Nat} {v : Nat} {s s' : Rs} (h : Mid W D pv sv prog r f L v s y) (hr : IsRun y' r pv sv s') (hk : Kept (fun k => k = r) y y') (hrf : r ≠ f) : Mid W D pv sv prog r f L v s' y' :=
  h.turn hr (h.fr.kept hk fun e => hrf e.symm) (hk.mono fun _ _ e => .inl e)
section
variable {pv sv : Value} {prog : List Fn} {D : Nat → Prop}
set_option maxHeartbeats 8000000 in
set_option maxRecDepth 100000 in
theorem loop_walk (rec : Sem) (hV : ValC pv sv prog D rec.val) (hL : LstC pv sv prog D rec.lst) (g : Nat) (kind n ao : Int) (an : Nat) (ak : Ef) (bo : Int) (bn : Nat) (VB V9 : Value) (body : Sf) (L : Nat → Nat) (v : Nat) (s : Rs) (way : Nat) (L' : Nat → Nat) (v' : Nat) (s' : Rs)
    (hwh : wh rec ao an ak body g L v s = some (way, L', v', s')) (w : World) (r f : Nat) (VA V8 : Value) (hr : IsRun w r pv sv s) (hf : IsFr w f L v) (hp : SlP w D pv prog) (hA : SlE w D VA ak) (h8 : SlS w D V8 body) (han : an < 18446744073709551616) (hD : ∀ k, D k → k < w.heap.size ∧ k ≠ r ∧ k ≠ f) (hrf : r ≠ f) :
    Calls Tryz.prog 72 #[.pointer (some ⟨r, 0, none⟩), .pointer (some ⟨f, 0, none⟩), .agg #[.int .i64 kind, .int .i64 n, .int .i64 ao, .int .u64 an, VA, .int .i64 bo, .int .u64 bn, VB, V8, V9]] w fun e w' => e = .returned (.int .i64 way) ∧ way < 3 ∧ IsRun w' r pv sv s' ∧ IsFr w' f L' v' ∧ Kept (fun k => k = r ∨ k = f) w w' := by
  have hk0 : Kept (fun _ => False) w (w.alloc (.cells #[.int .i64 kind, .int .i64 n, .int .i64 ao, .int .u64 an, VA, .int .i64 bo, .int .u64 bn, VB, V8, V9] 35)) := (Kept.refl _ w).alloc _
  have HB := Lib.hid (Bt10.new w (.int .i64 kind) (.int .i64 n) (.int .i64 ao) (.int .u64 an) VA (.int .i64 bo) (.int .u64 bn) VB V8 V9 35)
  have H0 : Hid (∃ k L1 v1 s1, wh rec ao an ak body k L1 v1 s1 = some (way, L', v', s') ∧ Mid (w.alloc (.cells #[.int .i64 kind, .int .i64 n, .int .i64 ao, .int .u64 an, VA, .int .i64 bo, .int .u64 bn, VB, V8, V9] 35)) D pv sv prog r f L1 v1 s1 (w.alloc (.cells #[.int .i64 kind, .int .i64 n, .int .i64 ao, .int .u64 an, VA, .int .i64 bo, .int .u64 bn, VB, V8, V9] 35))) :=
    Lib.hid ⟨g, L, v, s, hwh, hr.kept hk0 id, hf.kept hk0 id, hp.kept hk0 fun _ _ => id, Kept.refl _ _, fun k e => ⟨Nat.lt_of_lt_of_le (hD k e).1 hk0.size, (hD k e).2⟩⟩
  have HX := Lib.hid (And.intro (hA.kept hk0 fun _ _ => id) (And.intro han (h8.kept hk0 fun _ _ => id)))
  have HQ : Hid (¬ (w.heap.size = r ∨ w.heap.size = f) ∧ (∀ k, D k → ¬ (k = r ∨ k = f)) ∧ r ≠ f) := Lib.hid ⟨by rintro (e | e); have := hr.lt; omega; have := hf.lt; omega, fun k e => by rintro (e2 | e2); exact (hD k e).2.1 e2; exact (hD k e).2.2 e2, hrf⟩
  have HK0 := Lib.hid hk0
  clear hk0 hwh hr hf hp hA h8 han hD hrf
  go_enter Tryz.func72, Tryz.ntmps72
  go_upto_region 1 with (fail)
  generalize w.alloc (.cells #[.int .i64 kind, .int .i64 n, .int .i64 ao, .int .u64 an, VA, .int .i64 bo, .int .u64 bn, VB, V8, V9] 35) = y0 at *
  generalize w.heap.size = q at *
  go_loopw [9] (fun t y => Hid (∃ k L1 v1 s1, wh rec ao an ak body k L1 v1 s1 = some (way, L', v', s') ∧ Mid y0 D pv sv prog r f L1 v1 s1 y)) (fun t y => mu fun k => ∃ L1 v1 s1, wh rec ao an ak body k L1 v1 s1 = some (way, L', v', s') ∧ Mid y0 D pv sv prog r f L1 v1 s1 y)
  case atStart => exact H0
  case round =>
    clear H0
    obtain ⟨⟨L1, v1, s1, hev, hmid⟩, hmin⟩ := mu_spec (P := fun k => ∃ L1 v1 s1, wh rec ao an ak body k L1 v1 s1 = some (way, L', v', s') ∧ Mid y0 D pv sv prog r f L1 v1 s1 wr) hrel.out
    generalize (mu fun k => ∃ L1 v1 s1, wh rec ao an ak body k L1 v1 s1 = some (way, L', v', s') ∧ Mid y0 D pv sv prog r f L1 v1 s1 wr) = K at *
    clear hrel hmin
    have HM := Lib.hid hmid
    clear hmid
    cases K with
    | zero => cases hev
    | succ k =>
      unfold wh at hev
      by_cases hu : s1.used < s1.fuel
      · rw [if_pos hu] at hev
        have HSP := Lib.hid (spend_yes wr r pv sv s1 HM.out.run hu)
        clear hu
        cases hv : rec.val ao an ak L1 s1.up with
        | none => rw [hv] at hev; cases hev
        | some res =>
          obtain ⟨a, okk, s2⟩ := res
          rw [hv] at hev
          cases okk with
          | false =>
            dsimp only at hev
            obtain ⟨rfl, rfl, rfl, rfl⟩ : 2 = way ∧ L1 = L' ∧ v1 = v' ∧ s2 = s' := by simpa using hev
            go_wp2_with (first
              | (go_at_call 73; (with_reducible refine HSP.out.mono ?_); rintro e y1 ⟨he, hr1, hk1⟩; obtain rfl : e = _ := he; have HM1 := Lib.hid (HM.out.turnR hr1 hk1 HQ.out.2.2); clear hr1 hk1 HSP; have HB1 := Lib.hid (HB.out.kept HM1.out.kp HQ.out.1); have HLA := Lib.hid HB1.out.loadA; have HV1 := Lib.hid (hV ao an ak L1 s1.up a _ s2 hv y1 r f v1 VA HM1.out.run HM1.out.fr HM1.out.pr (HX.out.1.kept HM1.out.kp HQ.out.2.1) HX.out.2.1 HM1.out.d HQ.out.2.2))
              | ((with_reducible refine wpList_loadE (P := Tryz.prog) (w := y1) (ty := 30) (x := .tmp 16) (p := .pointer (some ⟨q, 2, none⟩)) (v := .agg #[.int .i64 ao, .int .u64 an, VA]) ?_ ?_ ?_ HLA.out ?_); (· exact rfl); (· exact rfl); (· exact rfl))
              | (go_at_call 74; (with_reducible refine HV1.out.mono ?_); rintro e y2 ⟨he, hx2, hr2, hk2⟩; obtain rfl : e = _ := he; have HM2 := Lib.hid (HM1.out.turnR hr2 hk2 HQ.out.2.2); clear hr2 hk2 HV1))
            exact bodyPost_ret (v := .int .i64 2) (by simp [results, Tryz.results72, go_sem]) rfl ⟨rfl, by decide, HM2.out.run, HM2.out.fr, Kept.after HK0.out HM2.out.kp⟩
          | true =>
            dsimp only at hev
            by_cases ha : a = 0
            · rw [if_pos ha] at hev
              obtain ⟨rfl, rfl, rfl, rfl⟩ : 0 = way ∧ L1 = L' ∧ v1 = v' ∧ s2 = s' := by simpa using hev
              have ta : ((a : Int) == 0) = true := by simp [ha]
              clear ha
              go_wp2_with (first
                | (go_at_call 73; (with_reducible refine HSP.out.mono ?_); rintro e y1 ⟨he, hr1, hk1⟩; obtain rfl : e = _ := he; have HM1 := Lib.hid (HM.out.turnR hr1 hk1 HQ.out.2.2); clear hr1 hk1 HSP; have HB1 := Lib.hid (HB.out.kept HM1.out.kp HQ.out.1); have HLA := Lib.hid HB1.out.loadA; have HV1 := Lib.hid (hV ao an ak L1 s1.up a _ s2 hv y1 r f v1 VA HM1.out.run HM1.out.fr HM1.out.pr (HX.out.1.kept HM1.out.kp HQ.out.2.1) HX.out.2.1 HM1.out.d HQ.out.2.2))
                | ((with_reducible refine wpList_loadE (P := Tryz.prog) (w := y1) (ty := 30) (x := .tmp 16) (p := .pointer (some ⟨q, 2, none⟩)) (v := .agg #[.int .i64 ao, .int .u64 an, VA]) ?_ ?_ ?_ HLA.out ?_); (· exact rfl); (· exact rfl); (· exact rfl))
                | (go_at_call 74; (with_reducible refine HV1.out.mono ?_); rintro e y2 ⟨he, hx2, hr2, hk2⟩; obtain rfl : e = _ := he; have HM2 := Lib.hid (HM1.out.turnR hr2 hk2 HQ.out.2.2); clear hr2 hk2 HV1))
              exact bodyPost_ret (v := .int .i64 0) (by simp [results, Tryz.results72, go_sem]) rfl ⟨rfl, by decide, HM2.out.run, HM2.out.fr, Kept.after HK0.out HM2.out.kp⟩
            · rw [if_neg ha] at hev
              have ta : ((a : Int) == 0) = false := by simp; omega
              clear ha
              cases hl : rec.lst body L1 v1 s2 with
              | none => rw [hl] at hev; cases hev
              | some res =>
                obtain ⟨way1, L2, v2, s3⟩ := res
                rw [hl] at hev
                dsimp only at hev
                by_cases hw : way1 = 0
                · rw [if_pos hw] at hev
                  have tw : ((way1 : Int) != 0) = false := by simp [hw]
                  clear hw
                  go_wp2_with (first
                    | (go_at_call 73; (with_reducible refine HSP.out.mono ?_); rintro e y1 ⟨he, hr1, hk1⟩; obtain rfl : e = _ := he; have HM1 := Lib.hid (HM.out.turnR hr1 hk1 HQ.out.2.2); clear hr1 hk1 HSP; have HB1 := Lib.hid (HB.out.kept HM1.out.kp HQ.out.1); have HLA := Lib.hid HB1.out.loadA; have HV1 := Lib.hid (hV ao an ak L1 s1.up a _ s2 hv y1 r f v1 VA HM1.out.run HM1.out.fr HM1.out.pr (HX.out.1.kept HM1.out.kp HQ.out.2.1) HX.out.2.1 HM1.out.d HQ.out.2.2))
                    | ((with_reducible refine wpList_loadE (P := Tryz.prog) (w := y1) (ty := 30) (x := .tmp 16) (p := .pointer (some ⟨q, 2, none⟩)) (v := .agg #[.int .i64 ao, .int .u64 an, VA]) ?_ ?_ ?_ HLA.out ?_); (· exact rfl); (· exact rfl); (· exact rfl))
                    | (go_at_call 74; (with_reducible refine HV1.out.mono ?_); rintro e y2 ⟨he, hx2, hr2, hk2⟩; obtain rfl : e = _ := he; have HM2 := Lib.hid (HM1.out.turnR hr2 hk2 HQ.out.2.2); clear hr2 hk2 HV1; have k8 := (HB.out.kept HM2.out.kp HQ.out.1).c8; have HL2 := Lib.hid (hL body L1 v1 s2 way1 L2 v2 s3 hl y2 r f V8 HM2.out.run HM2.out.fr HM2.out.pr (HX.out.2.2.kept HM2.out.kp HQ.out.2.1) HM2.out.d HQ.out.2.2))
                    | (go_at_call 54; (with_reducible refine HL2.out.mono ?_); rintro e y3 ⟨he, hw3, hr3, hf3, hk3⟩; obtain rfl : e = _ := he; have HM3 := Lib.hid (And.intro hw3 (HM2.out.turn hr3 hf3 hk3)); clear hw3 hr3 hf3 hk3 HL2 k8))
                  go_roundw
                  case rel => exact Lib.hid ⟨k, L2, v2, s3, hev, HM3.out.2⟩
                  case measure => exact Nat.lt_succ_of_le ((mu_spec (P := fun k => ∃ L1 v1 s1, wh rec ao an ak body k L1 v1 s1 = some (way, L', v', s') ∧ Mid y0 D pv sv prog r f L1 v1 s1 y3) ⟨k, L2, v2, s3, hev, HM3.out.2⟩).2 k ⟨L2, v2, s3, hev, HM3.out.2⟩)
                · rw [if_neg hw] at hev
                  have tw : ((way1 : Int) != 0) = true := by simp; omega
                  clear hw
                  obtain ⟨rfl, rfl, rfl, rfl⟩ : way1 = way ∧ L2 = L' ∧ v2 = v' ∧ s3 = s' := by simpa using hev
                  go_wp2_with (first
                    | (go_at_call 73; (with_reducible refine HSP.out.mono ?_); rintro e y1 ⟨he, hr1, hk1⟩; obtain rfl : e = _ := he; have HM1 := Lib.hid (HM.out.turnR hr1 hk1 HQ.out.2.2); clear hr1 hk1 HSP; have HB1 := Lib.hid (HB.out.kept HM1.out.kp HQ.out.1); have HLA := Lib.hid HB1.out.loadA; have HV1 := Lib.hid (hV ao an ak L1 s1.up a _ s2 hv y1 r f v1 VA HM1.out.run HM1.out.fr HM1.out.pr (HX.out.1.kept HM1.out.kp HQ.out.2.1) HX.out.2.1 HM1.out.d HQ.out.2.2))
                    | ((with_reducible refine wpList_loadE (P := Tryz.prog) (w := y1) (ty := 30) (x := .tmp 16) (p := .pointer (some ⟨q, 2, none⟩)) (v := .agg #[.int .i64 ao, .int .u64 an, VA]) ?_ ?_ ?_ HLA.out ?_); (· exact rfl); (· exact rfl); (· exact rfl))
                    | (go_at_call 74; (with_reducible refine HV1.out.mono ?_); rintro e y2 ⟨he, hx2, hr2, hk2⟩; obtain rfl : e = _ := he; have HM2 := Lib.hid (HM1.out.turnR hr2 hk2 HQ.out.2.2); clear hr2 hk2 HV1; have k8 := (HB.out.kept HM2.out.kp HQ.out.1).c8; have HL2 := Lib.hid (hL body L1 v1 s2 way1 L2 v2 s3 hl y2 r f V8 HM2.out.run HM2.out.fr HM2.out.pr (HX.out.2.2.kept HM2.out.kp HQ.out.2.1) HM2.out.d HQ.out.2.2))
                    | (go_at_call 54; (with_reducible refine HL2.out.mono ?_); rintro e y3 ⟨he, hw3, hr3, hf3, hk3⟩; obtain rfl : e = _ := he; have HM3 := Lib.hid (And.intro hw3 (HM2.out.turn hr3 hf3 hk3)); clear hw3 hr3 hf3 hk3 HL2 k8))
                  exact bodyPost_ret (v := .int .i64 way1) (by simp [results, Tryz.results72, go_sem]) rfl ⟨rfl, HM3.out.1, HM3.out.2.run, HM3.out.2.fr, Kept.after HK0.out HM3.out.2.kp⟩
      · rw [if_neg hu] at hev
        obtain ⟨rfl, rfl, rfl, rfl⟩ : 2 = way ∧ L1 = L' ∧ v1 = v' ∧ s1.dried = s' := by simpa using hev
        have HSP := Lib.hid (spend_no wr r pv sv s1 HM.out.run hu)
        clear hu
        go_wp2_with (go_at_call 73; (with_reducible refine HSP.out.mono ?_); rintro e y1 ⟨he, hr1, hk1⟩; obtain rfl : e = _ := he; have HM1 := Lib.hid (HM.out.turnR hr1 hk1 HQ.out.2.2); clear hr1 hk1 HSP)
        exact bodyPost_ret (v := .int .i64 2) (by simp [results, Tryz.results72, go_sem]) rfl ⟨rfl, by decide, HM1.out.run, HM1.out.fr, Kept.after HK0.out HM1.out.kp⟩
end
end Ir
end Go.Proofs.YtcgpdijpppcbiaaGreatDoor
