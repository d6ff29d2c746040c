/-
  THE SHELL OF A PROOF OF 'Rows.PositionTreeSaid' ('moot/mootlaw16.PositionTree'), WRITTEN BY PROGRAM (proof-skeleton.mjs) off the guide's own print for that function. Not trusted: Lean checks it.
  YOURS ARE THE HOLES MARKED 'HOLE' (each bears 'sorry'). ALL ELSE IS THE GUIDE's TEMPLATE (howto/template/XProofs.lean) at this function's number and types: leave it.
-/
import Derived.Test.YtlbbnflchkejgaaRows
import Derived.WalkKit
import Derived.ProofKit
import Derived.OpenShut
import Derived.Test.YtlbbnflchkejgaaPos
namespace Go.Proofs.Ytlbbnflchkejgaa.positionTree
open Go.ChangeShapes Go.WideShapes Go.ChangeAt Go.RowKit
set_option linter.unusedVariables false      -- a walk need not use every 'w<i>' (that an integer argument fits its kind)

theorem own : ownKnob Try.prog.godebug = none := by kernel_rfl

/-! ### STEP 1: THE WALK: the Go text returns true. 'Grown w w'': the world has at most new blocks (Derived/RowKit3.lean). Part the cases AHEAD of 'go_enter' where a test parts the walk; take each callee by a contract of your own. -/
set_option maxHeartbeats 400000 in
theorem walk_last (a0 a1 D I : Int) (hD : wrap64 ((IntKind.u64.wrap a0).tmod 24) = D) (hI : a1 % 2 ^ D.toNat = I) (d0 : 0 ≤ D) (d1 : D ≤ 23) (i0 : 0 ≤ I) (i1 : I < 2 ^ D.toNat) (u0 : 0 ≤ a1) (u1 : a1 ≤ 18446744073709551615) (hl : I + 1 = 2 ^ D.toNat) (w : World) :
    Calls Try.prog 3 #[.int .i64 a0, .int .u64 a1] w fun e w' => e = .returned (.bool true) ∧ Grown w w' := by
  have p0 := Pos.p2_pos D.toNat
  have p1 := Pos.p2_le D (by omega)
  have p2 := Pos.p2_nat D.toNat 23 (by omega)
  have ps := Pos.p2_succ D d0
  obtain ⟨p, hp⟩ : ∃ p, 2 ^ D.toNat + I = p := ⟨_, rfl⟩
  have Hp := Lib.hid hp
  have Hi := Lib.hid i1
  have H2 := Lib.hid (show 2 * p = 2 ^ (D + 1).toNat + 2 * I by omega)
  have H3 := Lib.hid (show 2 * I < 2 ^ (D + 1).toNat by omega)
  have b1 : 0 < p := by omega
  have b2 : p ≤ 16777216 := by omega
  have i2 : I < 16777216 := by omega
  have hlb : (I + 1 == 2 ^ D.toNat) = true := beq_iff_eq.2 hl
  have Hl := Lib.hid hl
  clear hp i1 ps hl
  go_enter Try.func3, Try.ntmps3
  go_wp2_with fail
  refine (Pos.make_ok D I _ d0 (by omega) i0 Hi.out).mono ?_
  rintro e w' ⟨rfl, q, rfl⟩
  rw [Hp.out]
  go_wp2_with fail
  refine (Pos.parts_ok p D I _ d0 (by omega) i0 Hi.out Hp.out.symm).mono ?_
  rintro e w' ⟨rfl, q, rfl⟩
  go_wp2_with fail
  refine (Pos.attack_ok p D I _ d0 (by omega) i0 Hi.out Hp.out.symm).mono ?_
  rintro e w' ⟨rfl, q, rfl⟩
  go_wp2_with fail
  refine (Pos.parts_ok (2 * p) (D + 1) (2 * I) _ (by omega) (by omega) (by omega) H3.out H2.out).mono ?_
  rintro e w' ⟨rfl, q, rfl⟩
  go_wp2_with fail
  refine (fixed_true _).mono ?_
  rintro e w' ⟨rfl, q, rfl⟩
  go_wp2_with fail
  refine (Pos.defend_last p D I _ d0 (by omega) i0 Hl.out Hp.out.symm).mono ?_
  rintro e w' ⟨rfl, q, rfl⟩
  go_wp2_with fail
  go_ret
  exact ⟨rfl, Grown.refl _⟩
set_option maxHeartbeats 400000 in
theorem walk_more (a0 a1 D I : Int) (hD : wrap64 ((IntKind.u64.wrap a0).tmod 24) = D) (hI : a1 % 2 ^ D.toNat = I) (d0 : 0 ≤ D) (d1 : D ≤ 23) (i0 : 0 ≤ I) (i1 : I < 2 ^ D.toNat) (u0 : 0 ≤ a1) (u1 : a1 ≤ 18446744073709551615) (hl : ¬ I + 1 = 2 ^ D.toNat) (w : World) :
    Calls Try.prog 3 #[.int .i64 a0, .int .u64 a1] w fun e w' => e = .returned (.bool true) ∧ Grown w w' := by
  have p0 := Pos.p2_pos D.toNat
  have p1 := Pos.p2_le D (by omega)
  have p2 := Pos.p2_nat D.toNat 23 (by omega)
  have ps := Pos.p2_succ D d0
  obtain ⟨p, hp⟩ : ∃ p, 2 ^ D.toNat + I = p := ⟨_, rfl⟩
  have Hp := Lib.hid hp
  have Hi := Lib.hid i1
  have H2 := Lib.hid (show 2 * p = 2 ^ (D + 1).toNat + 2 * I by omega)
  have H3 := Lib.hid (show 2 * I < 2 ^ (D + 1).toNat by omega)
  have b1 : 0 < p := by omega
  have b2 : p ≤ 16777216 := by omega
  have i2 : I < 16777216 := by omega
  have hlb : (I + 1 == 2 ^ D.toNat) = false := beq_eq_false_iff_ne.2 hl
  have Hl := Lib.hid (show I + 1 < 2 ^ D.toNat by omega)
  have Hq := Lib.hid (show p + 1 = 2 ^ D.toNat + (I + 1) by omega)
  have H4 := Lib.hid (show 2 ^ D.toNat + (I + 1) = p + 1 by omega)
  clear hp i1 ps hl
  go_enter Try.func3, Try.ntmps3
  go_wp2_with fail
  refine (Pos.make_ok D I _ d0 (by omega) i0 Hi.out).mono ?_
  rintro e w' ⟨rfl, q, rfl⟩
  rw [Hp.out]
  go_wp2_with fail
  refine (Pos.parts_ok p D I _ d0 (by omega) i0 Hi.out Hp.out.symm).mono ?_
  rintro e w' ⟨rfl, q, rfl⟩
  go_wp2_with fail
  refine (Pos.attack_ok p D I _ d0 (by omega) i0 Hi.out Hp.out.symm).mono ?_
  rintro e w' ⟨rfl, q, rfl⟩
  go_wp2_with fail
  refine (Pos.parts_ok (2 * p) (D + 1) (2 * I) _ (by omega) (by omega) (by omega) H3.out H2.out).mono ?_
  rintro e w' ⟨rfl, q, rfl⟩
  go_wp2_with fail
  refine (fixed_true _).mono ?_
  rintro e w' ⟨rfl, q, rfl⟩
  go_wp2_with fail
  refine (Pos.defend_ok p D I _ d0 (by omega) i0 Hl.out Hp.out.symm).mono ?_
  rintro e w' ⟨rfl, q, rfl⟩
  go_wp2_with fail
  refine (Pos.make_ok D (I + 1) _ d0 (by omega) (by omega) Hl.out).mono ?_
  rintro e w' ⟨rfl, q, rfl⟩
  rw [H4.out]
  go_wp2_with fail
  refine (Pos.attack_ok (p + 1) D (I + 1) _ d0 (by omega) (by omega) Hl.out Hq.out).mono ?_
  rintro e w' ⟨rfl, q, rfl⟩
  go_wp2_with fail
  go_ret
  exact ⟨rfl, Grown.refl _⟩
theorem walk (a0 : Int) (a1 : Int) (w0 : (Lit.int .i64 a0).wf = true) (w1 : (Lit.int .u64 a1).wf = true) (w : World) :
    Calls Try.prog 3 #[.int .i64 a0, .int .u64 a1] w fun e w' => e = .returned (.bool true) ∧ Grown w w' := by
  have u := bounds_u64 w1
  have hu : 0 ≤ IntKind.u64.wrap a0 := by simp [IntKind.wrap, IntKind.bits, IntKind.signed]; omega
  obtain ⟨D, hD⟩ : ∃ D, wrap64 ((IntKind.u64.wrap a0).tmod 24) = D := ⟨_, rfl⟩
  have hD2 : 0 ≤ D ∧ D ≤ 23 := by
    rw [← hD, Int.tmod_eq_emod_of_nonneg hu]; unfold wrap64; omega
  obtain ⟨I, hI⟩ : ∃ I, a1 % 2 ^ D.toNat = I := ⟨_, rfl⟩
  have p0 := Pos.p2_pos D.toNat
  have h1 := Int.emod_nonneg a1 (show (2 : Int) ^ D.toNat ≠ 0 by omega)
  have h2 := Int.emod_lt_of_pos a1 p0
  rw [hI] at h1 h2
  by_cases hl : I + 1 = 2 ^ D.toNat
  · exact walk_last a0 a1 D I hD hI hD2.1 hD2.2 h1 h2 u.1 u.2 hl w
  · exact walk_more a0 a1 D I hD hI hD2.1 hD2.2 h1 h2 u.1 u.2 hl w

/-! ### THE ROW's STEP: WRITTEN OUT: LEAVE IT -/
set_option maxRecDepth 100000 in
theorem lifted (os : Os) (started : os.Started) (H : Type) (enc : TypeId × Value → H) :
    ReturnsInHanded {} Try.checked os 3 .any (Rows.positionTreeSpec.pre6 enc Try.prog Try.f3 Rows.positionTreeRow.domain false) (Rows.positionTreeSpec.post enc Try.prog Try.f3 false true false false) := by
  refine returnsInHanded_of_change (C := Try.checked) own started (by kernel_rfl) Try.func3
    (ChangeSpec.witness6 (enc := enc) (C := Try.checked) false ⟨#[], #[.int .i64 0, .int .u64 0], []⟩ 8 (by kernel_rfl) (by kernel_rfl) (by kernel_rfl) (by kernel_rfl)) ?_
  intro W base args ds gs before hval0 hW hcnd _
  have hval : ∀ (j : Nat) t v, Try.f3.params[j]? = some t → args[j]? = some v → Value.okWide Try.prog W .any base t v := hval0
  have hW' := hW
  obtain ⟨p, q, hA0, hV, rfl, hfz, hnd⟩ := hW
  have hA : DataW.TrodAll enc Try.prog W 0 (fun _ => true) true Try.f3.params.toList args.toList ds p := hA0
  rw [Try.params3] at hA hval
  obtain ⟨v0, vs0, d0, ds0, p0, q0, hargs, rfl, rfl, h0, r0⟩ := trodAll_cons hA
  obtain ⟨v1, vs1, d1, ds1, p1, q1, rfl, rfl, rfl, h1, r1⟩ := trodAll_cons r0
  obtain ⟨rfl, rfl, rfl⟩ := trodAll_nil r1
  obtain rfl : args = #[v0, v1] := by cases args; simp_all
  obtain ⟨rfl, rfl⟩ := trodVars_none hV
  obtain ⟨a0, rfl, rfl, rfl, w0⟩ := open_int Try.underlying3 (hval 0 3 v0 rfl rfl) h0
  obtain ⟨a1, rfl, rfl, rfl, w1⟩ := open_int Try.underlying22 (hval 1 22 v1 rfl rfl) h1
  clear hA0 hval0
  simp only [List.append_nil] at hW'
  refine (walk a0 a1 w0 w1 W).mono fun e W' ⟨he, hg⟩ => ?_
  subst he
  exact ⟨_, rfl, post_of_same (pa := []) (pv := []) hW' (fun _ _ _ => (trodAll_cons_mk (shut_bool Try.underlying4 _) trodAll_mk0)) (fun sp _ => (trodAll_cons_mk (shut_int Try.underlying3 w0) (trodAll_cons_mk (shut_int Try.underlying22 w1) trodAll_mk0))) (fun _ _ => rfl) rfl
    (hg.frame _) hg.2.1 (ok_one (by kernel_rfl) rfl (okWide_bool_mk Try.underlying4 _))⟩

theorem over : Rows.positionTreeRow.holds Try.pinned (OpenSpec.ofChange Rows.positionTreeSpec) :=
  OpenClaim.holds_of_wide 3 Try.f3 rfl rfl rfl rfl rfl rfl rfl ⟨rfl, rfl, rfl, rfl, rfl⟩ rfl rfl rfl rfl rfl (by kernel_rfl) Try.func3 (by kernel_rfl)
    (of_decide_eq_true (by kernel_rfl)) (by unfold Func.isWrapper; first | (rw [if_pos (by decide +kernel)]; kernel_rfl) | (rw [if_neg (by decide +kernel)]; exact ⟨rfl, rfl⟩))
    (fun os started H enc _ => lifted os started H enc)

/-- ████ THE STATEMENT ████ -/
theorem proved : Rows.PositionTreeSaid :=
  over
#print axioms proved
end Go.Proofs.Ytlbbnflchkejgaa.positionTree
