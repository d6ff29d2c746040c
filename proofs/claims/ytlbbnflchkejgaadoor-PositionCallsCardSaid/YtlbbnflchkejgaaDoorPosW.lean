/-
  Layer 16: each function and its answer side by side, and the walk of PositionCalls. Own work.
-/
import Derived.Test.YtlbbnflchkejgaaDoorPosC
namespace Go.Proofs.YtlbbnflchkejgaaDoor
open Go.RowKit
set_option linter.unusedVariables false
namespace PosC
/-- What the walk keeps of the world: the two listed variables, and all that lay below. -/
structure Keeps (W w : World) : Prop where
  below : Below W.heap.size W w
  et : w.cell? ⟨1, 0, none⟩ = some (.iface 55 (.agg #[.pointer (some ⟨2, 24, none⟩)]))
  tab : TabAt 0 Lib.deBruijn64tab w
theorem Keeps.drewN {W w : World} (h : Keeps W w) (n : Nat) : Keeps W (w.drewN n) := ⟨below_drewN h.below n, h.et, Pos.tab_drew h.tab⟩
theorem Keeps.next {W w w' : World} (h : Keeps W w) (hb : Below w.heap.size w w') : Keeps W w' := ⟨bl h.below hb, keep1 hb h.et, fun j hj => keep1 hb (h.tab j hj)⟩
theorem why_any (n : Int) (w : World) (hg : w.cell? ⟨1, 0, none⟩ = some (.iface 55 (.agg #[.pointer (some ⟨2, 24, none⟩)]))) :
    Calls Tryd.prog 26 #[errV n] w fun e w' => e = .returned (.tuple #[.int .i64 n, .int .i64 (-1)]) ∧ Below w.heap.size w w' := by
  by_cases h : n = 0
  · subst h
    rw [err0]
    exact (why_nil w).mono fun e w' ⟨h1, h2⟩ => ⟨h1, h2 ▸ Below.refl _ _⟩
  · rw [show errV n = .iface 33 (.int .i64 n) by simp [errV, h]]
    exact why_num n w hg
theorem same_any (a n : Int) (W w : World) (hk : Keeps W w) :
    Calls Tryd.prog 17 #[.int .u64 a, errV n, .int .u64 a, .int .i64 n] w fun e w' => e = .returned (.bool true) ∧ Keeps W w' := by
  have HK := Lib.hid hk
  clear hk
  go_enter Tryd.func17, Tryd.ntmps17
  go_wp2_with fail
  refine (why_any n _ HK.out.et).mono ?_
  rintro e w' ⟨rfl, hb⟩
  go_wp2_with fail
  go_ret
  exact ⟨by simp, HK.out.next hb⟩
theorem split (p : Int) (h0 : 1 ≤ p) (h1 : p < 33554432) : ∃ d i : Int, 0 ≤ d ∧ d ≤ 24 ∧ 0 ≤ i ∧ i < 2 ^ d.toNat ∧ p = 2 ^ d.toNat + i := by
  obtain ⟨n, rfl⟩ := Int.eq_ofNat_of_zero_le (show 0 ≤ p by omega)
  have hn : n ≠ 0 := by omega
  have a := Nat.log2_self_le hn
  have b : n < 2 ^ (n.log2 + 1) := Nat.lt_log2_self
  rw [Nat.pow_succ] at b
  have e : ((2 ^ n.log2 : Nat) : Int) = (2 : Int) ^ n.log2 := Int.natCast_pow 2 n.log2
  have c : n.log2 < 25 := by
    rcases Nat.lt_or_ge n.log2 25 with c | c
    · exact c
    · exfalso
      have f := Pos.p2_nat 25 n.log2 c
      rw [← e] at f
      have g : (2 : Int) ^ 25 = 33554432 := by decide +kernel
      omega
  refine ⟨(n.log2 : Nat), (n : Int) - 2 ^ n.log2, by omega, by omega, ?_, ?_, ?_⟩ <;> rw [← e] <;> (try rw [Int.toNat_natCast, ← e]) <;> omega
theorem make_both (d i : Int) (i0 : 0 ≤ i) : ∃ v n : Int,
    (∀ W w, Keeps W w → Calls Tryd.prog 7 #[.int .i64 d, .int .u64 i] w fun e w' => e = .returned (.tuple #[.int .u64 v, errV n]) ∧ Keeps W w') ∧
    (∀ w, Calls Tryd.prog 15 #[.int .i64 d, .int .u64 i] w fun e w' => e = .returned (.tuple #[.int .u64 v, .int .i64 n]) ∧ w = w') := by
  by_cases h : d < 0 ∨ 24 < d
  · exact ⟨0, 2, fun W w hk => (Pos.make_deep d i w h).mono (fun e w' ⟨a, q, b⟩ => ⟨a, b ▸ hk.drewN q⟩), fun w => RefP.make_deep d i w h⟩
  · by_cases h2 : 2 ^ d.toNat ≤ i
    · exact ⟨0, 2, fun W w hk => (Pos.make_wide d i w (by omega) (by omega) h2).mono (fun e w' ⟨a, q, b⟩ => ⟨a, b ▸ hk.drewN q⟩), fun w => RefP.make_wide d i w (by omega) (by omega) i0 h2⟩
    · exact ⟨2 ^ d.toNat + i, 0, fun W w hk => (Pos.make_ok d i w (by omega) (by omega) i0 (by omega)).mono (fun e w' ⟨a, q, b⟩ => ⟨a, b ▸ hk.drewN q⟩), fun w => RefP.make_ok d i w (by omega) (by omega) i0 (by omega)⟩
theorem parts_both (p : Int) (p0 : 0 ≤ p) : ∃ d i n : Int,
    (∀ W w, Keeps W w → Calls Tryd.prog 8 #[.int .u64 p] w fun e w' => e = .returned (.tuple #[.int .i64 d, .int .u64 i, errV n]) ∧ Keeps W w') ∧
    (∀ w, Calls Tryd.prog 16 #[.int .u64 p] w fun e w' => e = .returned (.tuple #[.int .i64 d, .int .u64 i, .int .i64 n]) ∧ w = w') := by
  by_cases h : p = 0 ∨ 33554432 ≤ p
  · exact ⟨0, 0, 2, fun W w hk => (Pos.parts_bad p w h).mono (fun e w' ⟨a, q, b⟩ => ⟨a, b ▸ hk.drewN q⟩), fun w => RefP.parts_bad p w h⟩
  · obtain ⟨d, i, h0, h1, i0, i1, hp⟩ := split p (by omega) (by omega)
    exact ⟨d, i, 0, fun W w hk => (Pos.parts_ok p d i w h0 h1 i0 i1 hp).mono (fun e w' ⟨a, q, b⟩ => ⟨a, b ▸ hk.drewN q⟩), fun w => RefP.parts_ok p d i w h0 h1 i0 i1 hp⟩
theorem trace_both (p k : Int) (p0 : 0 ≤ p) : ∃ v n : Int,
    (∀ W w, Keeps W w → Calls Tryd.prog 9 #[.int .u64 p, .int .i64 k] w fun e w' => e = .returned (.tuple #[.int .u64 v, errV n]) ∧ Keeps W w') ∧
    (∀ w, Calls Tryd.prog 18 #[.int .u64 p, .int .i64 k] w fun e w' => e = .returned (.tuple #[.int .u64 v, .int .i64 n]) ∧ w = w') := by
  by_cases h : p = 0 ∨ 33554432 ≤ p
  · exact ⟨0, 2, fun W w hk => (trace_bad p k w h).mono (fun e w' ⟨a, q, b⟩ => ⟨a, b ▸ hk.drewN q⟩), fun w => RefP.trace_bad p k w h⟩
  · obtain ⟨d, i, h0, h1, i0, i1, hp⟩ := split p (by omega) (by omega)
    by_cases h2 : k < d
    · exact ⟨0, 2, fun W w hk => (Pos.trace_shallow p d i k w h0 h1 h2 i0 i1 hp).mono (fun e w' ⟨a, q, b⟩ => ⟨a, b ▸ hk.drewN q⟩), fun w => RefP.trace_out p d i k w h0 h1 (by omega) i0 i1 hp⟩
    · by_cases h3 : 24 < k
      · exact ⟨0, 2, fun W w hk => (trace_far p d i k w h0 h1 h3 i0 i1 hp).mono (fun e w' ⟨a, q, b⟩ => ⟨a, b ▸ hk.drewN q⟩), fun w => RefP.trace_out p d i k w h0 h1 (by omega) i0 i1 hp⟩
      · exact ⟨Pos.T d i k - 1, 0, fun W w hk => (Pos.trace_ok p d i k w h0 (by omega) (by omega) i0 i1 hp).mono (fun e w' ⟨a, q, b⟩ => ⟨a, b ▸ hk.drewN q⟩), fun w => RefP.trace_ok p d i k w h0 (by omega) (by omega) i0 i1 hp⟩
theorem attack_both (p : Int) (p0 : 0 ≤ p) : ∃ v n : Int,
    (∀ W w, Keeps W w → Calls Tryd.prog 10 #[.int .u64 p] w fun e w' => e = .returned (.tuple #[.int .u64 v, errV n]) ∧ Keeps W w') ∧
    (∀ w, Calls Tryd.prog 19 #[.int .u64 p] w fun e w' => e = .returned (.tuple #[.int .u64 v, .int .i64 n]) ∧ w = w') := by
  by_cases h : p = 0 ∨ 33554432 ≤ p
  · exact ⟨0, 2, fun W w hk => (attack_bad p w h).mono (fun e w' ⟨a, q, b⟩ => ⟨a, b ▸ hk.drewN q⟩), fun w => RefP.attack_bad p w h⟩
  · obtain ⟨d, i, h0, h1, i0, i1, hp⟩ := split p (by omega) (by omega)
    by_cases h2 : d = 24
    · subst h2
      exact ⟨0, 2, fun W w hk => (attack_deep p i w i0 i1 hp).mono (fun e w' ⟨a, q, b⟩ => ⟨a, b ▸ hk.drewN q⟩), fun w => RefP.attack_deep p i w i0 i1 hp⟩
    · exact ⟨2 * p, 0, fun W w hk => (Pos.attack_ok p d i w h0 (by omega) i0 i1 hp).mono (fun e w' ⟨a, q, b⟩ => ⟨a, b ▸ hk.drewN q⟩), fun w => RefP.attack_ok p d i w h0 (by omega) i0 i1 hp⟩
theorem defend_both (p : Int) (p0 : 0 ≤ p) : ∃ v n : Int,
    (∀ W w, Keeps W w → Calls Tryd.prog 11 #[.int .u64 p] w fun e w' => e = .returned (.tuple #[.int .u64 v, errV n]) ∧ Keeps W w') ∧
    (∀ w, Calls Tryd.prog 20 #[.int .u64 p] w fun e w' => e = .returned (.tuple #[.int .u64 v, .int .i64 n]) ∧ w = w') := by
  by_cases h : p = 0 ∨ 33554432 ≤ p
  · exact ⟨0, 2, fun W w hk => (defend_bad p w h).mono (fun e w' ⟨a, q, b⟩ => ⟨a, b ▸ hk.drewN q⟩), fun w => RefP.defend_bad p w h⟩
  · obtain ⟨d, i, h0, h1, i0, i1, hp⟩ := split p (by omega) (by omega)
    by_cases h2 : d = 24
    · subst h2
      exact ⟨0, 2, fun W w hk => (defend_deep p i w i0 i1 hp).mono (fun e w' ⟨a, q, b⟩ => ⟨a, b ▸ hk.drewN q⟩), fun w => RefP.defend_deep p i w i0 i1 hp⟩
    · by_cases h3 : i + 1 = 2 ^ d.toNat
      · exact ⟨0, 45, fun W w hk => (Pos.defend_last p d i w h0 (by omega) i0 h3 hp).mono (fun e w' ⟨a, q, b⟩ => ⟨a, b ▸ hk.drewN q⟩), fun w => RefP.defend_last p d i w h0 (by omega) i0 h3 hp⟩
      · exact ⟨2 * (p + 1), 0, fun W w hk => (Pos.defend_ok p d i w h0 (by omega) i0 (by omega) hp).mono (fun e w' ⟨a, q, b⟩ => ⟨a, b ▸ hk.drewN q⟩), fun w => RefP.defend_ok p d i w h0 (by omega) i0 (by omega) hp⟩
theorem highest_both (p k : Int) (p0 : 0 ≤ p) : ∃ v n : Int,
    (∀ W w, Keeps W w → Calls Tryd.prog 12 #[.int .u64 p, .int .i64 k] w fun e w' => e = .returned (.tuple #[.int .u64 v, errV n]) ∧ Keeps W w') ∧
    (∀ w, Calls Tryd.prog 21 #[.int .u64 p, .int .i64 k] w fun e w' => e = .returned (.tuple #[.int .u64 v, .int .i64 n]) ∧ w = w') := by
  by_cases h : p = 0 ∨ 33554432 ≤ p
  · exact ⟨0, 2, fun W w hk => (highest_out p k w (fun w => trace_bad p k w h)).mono (fun e w' ⟨a, q, b⟩ => ⟨a, b ▸ hk.drewN q⟩), fun w => RefP.highest_out p k w (fun w => RefP.trace_bad p k w h)⟩
  · obtain ⟨d, i, h0, h1, i0, i1, hp⟩ := split p (by omega) (by omega)
    by_cases h2 : k < d
    · exact ⟨0, 2, fun W w hk => (highest_out p k w (fun w => Pos.trace_shallow p d i k w h0 h1 h2 i0 i1 hp)).mono (fun e w' ⟨a, q, b⟩ => ⟨a, b ▸ hk.drewN q⟩), fun w => RefP.highest_out p k w (fun w => RefP.trace_out p d i k w h0 h1 (by omega) i0 i1 hp)⟩
    · by_cases h3 : 24 < k
      · exact ⟨0, 2, fun W w hk => (highest_out p k w (fun w => trace_far p d i k w h0 h1 h3 i0 i1 hp)).mono (fun e w' ⟨a, q, b⟩ => ⟨a, b ▸ hk.drewN q⟩), fun w => RefP.highest_out p k w (fun w => RefP.trace_out p d i k w h0 h1 (by omega) i0 i1 hp)⟩
      · exact ⟨2 ^ (k - Pos.Up d i k).toNat + Pos.HI d i k, 0, fun W w hk => (Pos.highest_ok p d i k w h0 (by omega) (by omega) i0 i1 hp hk.tab).mono (fun e w' ⟨a, q, b⟩ => ⟨a, b ▸ hk.drewN q⟩), fun w => RefP.highest_ok p d i k w h0 (by omega) (by omega) i0 i1 hp⟩
end PosC
theorem positionCalls_walk (p d i : Int) (w0 : (Lit.int .u64 p).wf = true) (w1 : (Lit.int .i64 d).wf = true) (w2 : (Lit.int .u64 i).wf = true) (w : World) (hT : TabAt 0 Lib.deBruijn64tab w)
    (hg : w.cell? ⟨1, 0, none⟩ = some (.iface 55 (.agg #[.pointer (some ⟨2, 24, none⟩)]))) :
    Calls Tryd.prog 5 #[.int .u64 p, .int .i64 d, .int .u64 i] w fun e w' => e = .returned (.bool true) ∧ Below w.heap.size w w' := by
  have p0 : 0 ≤ p := (of_decide_eq_true (Bool.and_eq_true_iff.1 w0).1)
  have i0 : 0 ≤ i := (of_decide_eq_true (Bool.and_eq_true_iff.1 w2).1)
  obtain ⟨mv, mn, m1, m2⟩ := PosC.make_both d i i0
  obtain ⟨pd, pi, pn, p1, p2⟩ := PosC.parts_both p p0
  obtain ⟨tv, tn, t1, t2⟩ := PosC.trace_both p d p0
  obtain ⟨av, an, a1, a2⟩ := PosC.attack_both p p0
  obtain ⟨dv, dn, d1, d2⟩ := PosC.defend_both p p0
  obtain ⟨hv, hn, h1, h2⟩ := PosC.highest_both p d p0
  have M1 := Lib.hid m1; have M2 := Lib.hid m2; have P1 := Lib.hid p1; have P2 := Lib.hid p2; have T1 := Lib.hid t1; have T2 := Lib.hid t2
  have A1 := Lib.hid a1; have A2 := Lib.hid a2; have D1 := Lib.hid d1; have D2 := Lib.hid d2; have H1 := Lib.hid h1; have H2 := Lib.hid h2
  have K0 := Lib.hid (PosC.Keeps.mk (Below.refl w.heap.size w) hg hT)
  clear m1 m2 p1 p2 t1 t2 a1 a2 d1 d2 h1 h2 hg hT w0 w1 w2 p0 i0
  go_enter Tryd.func5, Tryd.ntmps5
  go_wp2_with fail
  refine (M1.out _ _ K0.out).mono ?_
  rintro e w' ⟨rfl, k1⟩
  have K1 := Lib.hid k1
  clear k1
  go_wp2_with fail
  refine (M2.out _).mono ?_
  rintro e w' ⟨rfl, rfl⟩
  go_wp2_with fail
  refine (P1.out _ _ K1.out).mono ?_
  rintro e w' ⟨rfl, k2⟩
  have K2 := Lib.hid k2
  clear k2
  go_wp2_with fail
  refine (P2.out _).mono ?_
  rintro e w' ⟨rfl, rfl⟩
  go_wp2_with fail
  refine (fixed_true _).mono ?_
  rintro e w' ⟨rfl, q, rfl⟩
  go_wp2_with fail
  refine (PosC.same_any _ _ _ _ (K2.out.drewN q)).mono ?_
  rintro e w' ⟨rfl, k3⟩
  have K3 := Lib.hid k3
  clear k3
  go_wp2_with fail
  refine (PosC.same_any _ _ _ _ K3.out).mono ?_
  rintro e w' ⟨rfl, k4⟩
  have K4 := Lib.hid k4
  clear k4
  go_wp2_with fail
  refine (T1.out _ _ K4.out).mono ?_
  rintro e w' ⟨rfl, k5⟩
  have K5 := Lib.hid k5
  clear k5
  go_wp2_with fail
  refine (T2.out _).mono ?_
  rintro e w' ⟨rfl, rfl⟩
  go_wp2_with fail
  refine (PosC.same_any _ _ _ _ K5.out).mono ?_
  rintro e w' ⟨rfl, k6⟩
  have K6 := Lib.hid k6
  clear k6
  go_wp2_with fail
  refine (A1.out _ _ K6.out).mono ?_
  rintro e w' ⟨rfl, k7⟩
  have K7 := Lib.hid k7
  clear k7
  go_wp2_with fail
  refine (A2.out _).mono ?_
  rintro e w' ⟨rfl, rfl⟩
  go_wp2_with fail
  refine (PosC.same_any _ _ _ _ K7.out).mono ?_
  rintro e w' ⟨rfl, k8⟩
  have K8 := Lib.hid k8
  clear k8
  go_wp2_with fail
  refine (D1.out _ _ K8.out).mono ?_
  rintro e w' ⟨rfl, k9⟩
  have K9 := Lib.hid k9
  clear k9
  go_wp2_with fail
  refine (D2.out _).mono ?_
  rintro e w' ⟨rfl, rfl⟩
  go_wp2_with fail
  refine (PosC.same_any _ _ _ _ K9.out).mono ?_
  rintro e w' ⟨rfl, k10⟩
  have K10 := Lib.hid k10
  clear k10
  go_wp2_with fail
  refine (H1.out _ _ K10.out).mono ?_
  rintro e w' ⟨rfl, k11⟩
  have K11 := Lib.hid k11
  clear k11
  go_wp2_with fail
  refine (H2.out _).mono ?_
  rintro e w' ⟨rfl, rfl⟩
  go_wp2_with fail
  refine (PosC.same_any _ _ _ _ K11.out).mono ?_
  rintro e w' ⟨rfl, k12⟩
  have K12 := Lib.hid k12
  clear k12
  go_wp2_with fail
  go_ret
  exact ⟨rfl, K12.out.below⟩
end Go.Proofs.YtlbbnflchkejgaaDoor
