/-
  The walk of PositionOrder. Own work.
-/
import Derived.Test.YtlbbnflchkejgaaDoorTz
namespace Go.Proofs.YtlbbnflchkejgaaDoor
open Go.RowKit
set_option linter.unusedVariables false
namespace Pos
theorem T_lt (d i j k : Int) : (T d i k < T d j k) ↔ i < j := by
  unfold T
  have hp := p2_pos (k - d).toNat
  constructor
  · intro h
    have := Int.lt_of_mul_lt_mul_right h (Int.le_of_lt hp)
    omega
  · intro h
    exact Int.mul_lt_mul_of_pos_right (by omega) hp
theorem T_inj (d i j k : Int) (h : T d i k = T d j k) : i = j := by
  have h1 := T_lt d i j k
  have h2 := T_lt d j i k
  omega
theorem HI_odd (d i k : Int) (h0 : 0 ≤ d) (hk : d ≤ k) (h1 : k ≤ 24) (i0 : 0 ≤ i) (i1 : i < 2 ^ d.toNat) (hu : Up d i k < k) : (HI d i k + 1) % 2 = 1 := by
  have t1 := T_pos d i k i0
  have t2 := T_le d i k h0 i1 hk
  have t3 := p2_le k h1
  have hs := HI_spec d i k h0 hk h1 i0 i1
  obtain ⟨m, hm, hc⟩ := Lib.ctzFrom_spec 64 (T d i k).toNat (by omega) (by omega)
  have e : Lib.ctz 64 (T d i k).toNat = Lib.ctzFrom 64 (T d i k).toNat := by simp [Lib.ctz]; omega
  have hU : (Up d i k).toNat = Lib.ctzFrom 64 (T d i k).toNat := by unfold Up at *; omega
  rw [← hU] at hm
  have h2 : ((T d i k).toNat : Int) = 2 ^ (Up d i k).toNat * (2 * (m : Int) + 1) := by
    have h9 : ((T d i k).toNat : Int) = ((2 ^ (Up d i k).toNat * (2 * m + 1) : Nat) : Int) := by rw [← hm]
    rw [h9]; simp
  rw [Int.toNat_of_nonneg (by omega), ← hs.1, Int.mul_comm] at h2
  have h3 := Int.eq_of_mul_eq_mul_left (show (2 : Int) ^ (Up d i k).toNat ≠ 0 by have := p2_pos (Up d i k).toNat; omega) h2
  omega
/-- Half of a position is the one above it; its trace index is another one. -/
theorem half_up (d i k : Int) (h0 : 0 ≤ d) (hk : d ≤ k) (h1 : k ≤ 24) (i0 : 0 ≤ i) (i1 : i < 2 ^ d.toNat) (hu : Up d i k < k) :
    (2 ^ (k - Up d i k).toNat + HI d i k) / 2 = 2 ^ (k - Up d i k - 1).toNat + HI d i k / 2 ∧ 0 ≤ HI d i k / 2 ∧ HI d i k / 2 < 2 ^ (k - Up d i k - 1).toNat ∧ T (k - Up d i k - 1) (HI d i k / 2) k ≠ T d i k := by
  have hs := HI_spec d i k h0 hk h1 i0 i1
  have ho := HI_odd d i k h0 hk h1 i0 i1 hu
  have e : (2 : Int) ^ (k - Up d i k).toNat = 2 * 2 ^ (k - Up d i k - 1).toNat := by rw [show (k - Up d i k).toNat = (k - Up d i k - 1).toNat + 1 by omega, Int.pow_succ]; omega
  have u := Up_le d i k h0 hk
  refine ⟨by omega, by omega, by omega, ?_⟩
  intro h
  rw [← hs.1] at h
  have e2 : T (k - Up d i k - 1) (HI d i k / 2) k = (HI d i k / 2 + 1) * (2 * 2 ^ (Up d i k).toNat) := by
    unfold T
    rw [show (k - (k - Up d i k - 1)).toNat = (Up d i k).toNat + 1 by omega, Int.pow_succ, Int.mul_comm (2 ^ _) 2]
  rw [e2, ← Int.mul_assoc] at h
  have h3 := Int.eq_of_mul_eq_mul_right (show (2 : Int) ^ (Up d i k).toNat ≠ 0 by have := p2_pos (Up d i k).toNat; omega) h
  omega
end Pos
set_option maxRecDepth 100000 in
set_option maxHeartbeats 4000000 in
theorem order_root (a0 a1 a2 a3 D I K L : Int) (eD : wrap64 ((IntKind.u64.wrap a0).tmod 20) = D) (eL : D + wrap64 ((IntKind.u64.wrap a3).tmod (25 - D)) = L) (eI : a1 % 2 ^ D.toNat = I) (eK : a2 % 2 ^ D.toNat = K)
    (d0 : 0 ≤ D) (d1 : D ≤ 19) (l0 : D ≤ L) (l1 : L ≤ 24) (i0 : 0 ≤ I) (i1 : I < 2 ^ D.toNat) (k0 : 0 ≤ K) (k1 : K < 2 ^ D.toNat) (u0 : 0 ≤ a1) (u1 : a1 ≤ 18446744073709551615) (v0 : 0 ≤ a2) (v1 : a2 ≤ 18446744073709551615)
    (w : World) (hu : Pos.Up D I L = L) (hT : TabAt 0 Lib.deBruijn64tab w) :
    Calls Tryd.prog 4 #[.int .i64 a0, .int .u64 a1, .int .u64 a2, .int .i64 a3] w fun e w' => e = .returned (.bool true) ∧ Below w.heap.size w w' := by
  have p0 := Pos.p2_pos D.toNat
  have p1 := Pos.p2_le D (by omega)
  have p2 := Pos.p2_nat D.toNat 23 (by omega)
  have u := Pos.Up_le D I L d0 l0
  have hs := Pos.HI_spec D I L d0 l0 l1 i0 i1
  have hle := Pos.top_le D I L d0 l0 l1 i0 i1
  have t1 := Pos.T_pos D I L i0
  have t2 := Pos.T_pos D K L k0
  have c1 := Pos.T_lt D I K L
  have c4 : Pos.T D I L = Pos.T D K L ↔ I = K := ⟨Pos.T_inj D I K L, fun h => by rw [h]⟩
  have c2 : (Pos.T D I L - 1 == Pos.T D K L - 1) = (I == K) := by
    rw [Bool.eq_iff_iff, beq_iff_eq, beq_iff_eq]
    constructor
    · intro h; exact Pos.T_inj D I K L (by omega)
    · intro h; rw [h]
  obtain ⟨P, hP⟩ : ∃ P, 2 ^ D.toNat + I = P := ⟨_, rfl⟩
  obtain ⟨Q, hQ⟩ : ∃ Q, 2 ^ D.toNat + K = Q := ⟨_, rfl⟩
  obtain ⟨O, hO⟩ : ∃ O, 2 ^ (L - Pos.Up D I L).toNat + Pos.HI D I L = O := ⟨_, rfl⟩
  have HTT := Lib.hid (Pos.T_top D I L d0 l0 l1 i0 i1)
  have HP := Lib.hid hP
  have HQ := Lib.hid hQ
  have HO := Lib.hid hO
  have HS := Lib.hid hs
  have op := Pos.p2_pos (L - Pos.Up D I L).toNat
  have o1 : O ≤ P := by omega
  have o0 : 1 ≤ O := by omega
  have o2 : P ≤ 16777216 := by have := Pos.p2_nat D.toNat 19 (by omega); omega
  have hH : Pos.HI D I L = 0 := by
    have h9 := hs.2.2
    rw [hu, show (L - L).toNat = 0 by omega, Int.pow_zero] at h9
    omega
  have o3 : (O == 1) = true := by
    rw [beq_iff_eq, ← hO, hH, hu, show (L - L).toNat = 0 by omega, Int.pow_zero]; rfl
  clear hP hQ hO hs hle op
  have HT := Lib.hid hT
  have H1 := Lib.hid i1
  have H2 := Lib.hid k1
  clear hT i1 k1
  have e9 : IntKind.u64.wrap (2 ^ D.toNat) = 2 ^ D.toNat := IntWalk.u64_in _ (by omega)
  have n9 : ¬ (2 : Int) ^ D.toNat = 0 := by omega
  have z9 : ((2 : Int) ^ D.toNat == 0) = false := by simpa using n9
  go_enter Tryd.func4, Tryd.ntmps4
  go_wp2_with fail
  go_quiet (fail)
  go_wp2_with fail
  refine (Pos.make_ok D I _ d0 (by omega) i0 H1.out).mono ?_
  rintro e w' ⟨rfl, q, rfl⟩
  rw [HP.out]
  go_wp2_with fail
  refine (Pos.make_ok D K _ d0 (by omega) k0 H2.out).mono ?_
  rintro e w' ⟨rfl, q, rfl⟩
  rw [HQ.out]
  go_wp2_with fail
  refine (Pos.trace_ok P D I L _ d0 l0 l1 i0 H1.out HP.out.symm).mono ?_
  rintro e w' ⟨rfl, q, rfl⟩
  go_wp2_with fail
  refine (Pos.trace_ok Q D K L _ d0 l0 l1 k0 H2.out HQ.out.symm).mono ?_
  rintro e w' ⟨rfl, q, rfl⟩
  go_wp2_with fail
  refine (fixed_true _).mono ?_
  rintro e w' ⟨rfl, q, rfl⟩
  go_wp2_with fail
  refine (Pos.highest_ok P D I L _ d0 l0 l1 i0 H1.out HP.out.symm (Pos.tab_drew HT.out)).mono ?_
  rintro e w' ⟨rfl, q, rfl⟩
  rw [HO.out]
  go_wp2_with fail
  refine (Pos.trace_ok O (L - Pos.Up D I L) (Pos.HI D I L) L _ (by omega) (by omega) l1 HS.out.2.1 HS.out.2.2 HO.out.symm).mono ?_
  rintro e w' ⟨rfl, q, rfl⟩
  rw [HTT.out]
  go_wp2_with fail
  go_ret
  exact ⟨rfl, below_drewN (Below.refl _ _) _⟩
set_option maxRecDepth 100000 in
set_option maxHeartbeats 4000000 in
theorem order_more (a0 a1 a2 a3 D I K L : Int) (eD : wrap64 ((IntKind.u64.wrap a0).tmod 20) = D) (eL : D + wrap64 ((IntKind.u64.wrap a3).tmod (25 - D)) = L) (eI : a1 % 2 ^ D.toNat = I) (eK : a2 % 2 ^ D.toNat = K)
    (d0 : 0 ≤ D) (d1 : D ≤ 19) (l0 : D ≤ L) (l1 : L ≤ 24) (i0 : 0 ≤ I) (i1 : I < 2 ^ D.toNat) (k0 : 0 ≤ K) (k1 : K < 2 ^ D.toNat) (u0 : 0 ≤ a1) (u1 : a1 ≤ 18446744073709551615) (v0 : 0 ≤ a2) (v1 : a2 ≤ 18446744073709551615)
    (w : World) (hu : Pos.Up D I L < L) (hT : TabAt 0 Lib.deBruijn64tab w) :
    Calls Tryd.prog 4 #[.int .i64 a0, .int .u64 a1, .int .u64 a2, .int .i64 a3] w fun e w' => e = .returned (.bool true) ∧ Below w.heap.size w w' := by
  have p0 := Pos.p2_pos D.toNat
  have p1 := Pos.p2_le D (by omega)
  have p2 := Pos.p2_nat D.toNat 23 (by omega)
  have u := Pos.Up_le D I L d0 l0
  have hs := Pos.HI_spec D I L d0 l0 l1 i0 i1
  have hle := Pos.top_le D I L d0 l0 l1 i0 i1
  have t1 := Pos.T_pos D I L i0
  have t2 := Pos.T_pos D K L k0
  have c1 := Pos.T_lt D I K L
  have c4 : Pos.T D I L = Pos.T D K L ↔ I = K := ⟨Pos.T_inj D I K L, fun h => by rw [h]⟩
  have c2 : (Pos.T D I L - 1 == Pos.T D K L - 1) = (I == K) := by
    rw [Bool.eq_iff_iff, beq_iff_eq, beq_iff_eq]
    constructor
    · intro h; exact Pos.T_inj D I K L (by omega)
    · intro h; rw [h]
  obtain ⟨P, hP⟩ : ∃ P, 2 ^ D.toNat + I = P := ⟨_, rfl⟩
  obtain ⟨Q, hQ⟩ : ∃ Q, 2 ^ D.toNat + K = Q := ⟨_, rfl⟩
  obtain ⟨O, hO⟩ : ∃ O, 2 ^ (L - Pos.Up D I L).toNat + Pos.HI D I L = O := ⟨_, rfl⟩
  have HTT := Lib.hid (Pos.T_top D I L d0 l0 l1 i0 i1)
  have HP := Lib.hid hP
  have HQ := Lib.hid hQ
  have HO := Lib.hid hO
  have HS := Lib.hid hs
  have op := Pos.p2_pos (L - Pos.Up D I L).toNat
  have o1 : O ≤ P := by omega
  have o0 : 1 ≤ O := by omega
  have o2 : P ≤ 16777216 := by have := Pos.p2_nat D.toNat 19 (by omega); omega
  have HH := Lib.hid (Pos.half_up D I L d0 l0 l1 i0 i1 hu)
  have o4 : 2 ≤ O := by
    have e9 : (2 : Int) ^ (L - Pos.Up D I L).toNat = 2 * 2 ^ (L - Pos.Up D I L - 1).toNat := by rw [show (L - Pos.Up D I L).toNat = (L - Pos.Up D I L - 1).toNat + 1 by omega, Int.pow_succ]; omega
    have := Pos.p2_pos (L - Pos.Up D I L - 1).toNat
    omega
  have o3 : (O == 1) = false := by rw [beq_eq_false_iff_ne]; omega
  have o5 : (Pos.T (L - Pos.Up D I L - 1) (Pos.HI D I L / 2) L - 1 != Pos.T D I L - 1) = true := by
    rw [bne_iff_ne]; have := HH.out.2.2.2; omega
  clear hP hQ hO hs hle op
  have HT := Lib.hid hT
  have H1 := Lib.hid i1
  have H2 := Lib.hid k1
  clear hT i1 k1
  have e9 : IntKind.u64.wrap (2 ^ D.toNat) = 2 ^ D.toNat := IntWalk.u64_in _ (by omega)
  have n9 : ¬ (2 : Int) ^ D.toNat = 0 := by omega
  have z9 : ((2 : Int) ^ D.toNat == 0) = false := by simpa using n9
  go_enter Tryd.func4, Tryd.ntmps4
  go_wp2_with fail
  go_quiet (fail)
  go_wp2_with fail
  refine (Pos.make_ok D I _ d0 (by omega) i0 H1.out).mono ?_
  rintro e w' ⟨rfl, q, rfl⟩
  rw [HP.out]
  go_wp2_with fail
  refine (Pos.make_ok D K _ d0 (by omega) k0 H2.out).mono ?_
  rintro e w' ⟨rfl, q, rfl⟩
  rw [HQ.out]
  go_wp2_with fail
  refine (Pos.trace_ok P D I L _ d0 l0 l1 i0 H1.out HP.out.symm).mono ?_
  rintro e w' ⟨rfl, q, rfl⟩
  go_wp2_with fail
  refine (Pos.trace_ok Q D K L _ d0 l0 l1 k0 H2.out HQ.out.symm).mono ?_
  rintro e w' ⟨rfl, q, rfl⟩
  go_wp2_with fail
  refine (fixed_true _).mono ?_
  rintro e w' ⟨rfl, q, rfl⟩
  go_wp2_with fail
  refine (Pos.highest_ok P D I L _ d0 l0 l1 i0 H1.out HP.out.symm (Pos.tab_drew HT.out)).mono ?_
  rintro e w' ⟨rfl, q, rfl⟩
  rw [HO.out]
  go_wp2_with fail
  refine (Pos.trace_ok O (L - Pos.Up D I L) (Pos.HI D I L) L _ (by omega) (by omega) l1 HS.out.2.1 HS.out.2.2 HO.out.symm).mono ?_
  rintro e w' ⟨rfl, q, rfl⟩
  rw [HTT.out]
  go_wp2_with fail
  refine (Pos.trace_ok (O / 2) (L - Pos.Up D I L - 1) (Pos.HI D I L / 2) L _ (by omega) (by omega) l1 HH.out.2.1 HH.out.2.2.1 (by rw [← HO.out]; exact HH.out.1)).mono ?_
  rintro e w' ⟨rfl, q, rfl⟩
  go_wp2_with fail
  go_ret
  exact ⟨rfl, below_drewN (Below.refl _ _) _⟩
theorem positionOrder_walk (a0 a1 a2 a3 : Int) (w0 : (Lit.int .i64 a0).wf = true) (w1 : (Lit.int .u64 a1).wf = true) (w2 : (Lit.int .u64 a2).wf = true) (w3 : (Lit.int .i64 a3).wf = true) (w : World) (hT : TabAt 0 Lib.deBruijn64tab w) :
    Calls Tryd.prog 4 #[.int .i64 a0, .int .u64 a1, .int .u64 a2, .int .i64 a3] w fun e w' => e = .returned (.bool true) ∧ Below w.heap.size w w' := by
  have u := bounds_u64 w1
  have v := bounds_u64 w2
  have hu0 : 0 ≤ IntKind.u64.wrap a0 := by simp [IntKind.wrap, IntKind.bits, IntKind.signed]; omega
  have hu3 : 0 ≤ IntKind.u64.wrap a3 := by simp [IntKind.wrap, IntKind.bits, IntKind.signed]; omega
  obtain ⟨D, hD⟩ : ∃ D, wrap64 ((IntKind.u64.wrap a0).tmod 20) = D := ⟨_, rfl⟩
  have hD2 : 0 ≤ D ∧ D ≤ 19 := by
    rw [← hD, Int.tmod_eq_emod_of_nonneg hu0]; unfold wrap64; omega
  obtain ⟨L, hL⟩ : ∃ L, D + wrap64 ((IntKind.u64.wrap a3).tmod (25 - D)) = L := ⟨_, rfl⟩
  have hL2 : D ≤ L ∧ L ≤ 24 := by
    rw [Int.tmod_eq_emod_of_nonneg hu3] at hL
    have m0 := Int.emod_nonneg (IntKind.u64.wrap a3) (show 25 - D ≠ 0 by omega)
    have m1 := Int.emod_lt_of_pos (IntKind.u64.wrap a3) (show 0 < 25 - D by omega)
    unfold wrap64 at hL
    omega
  have p0 := Pos.p2_pos D.toNat
  have h1 := Int.emod_nonneg a1 (show (2 : Int) ^ D.toNat ≠ 0 by omega)
  have h2 := Int.emod_lt_of_pos a1 p0
  have h3 := Int.emod_nonneg a2 (show (2 : Int) ^ D.toNat ≠ 0 by omega)
  have h4 := Int.emod_lt_of_pos a2 p0
  have hup := Pos.Up_le D (a1 % 2 ^ D.toNat) L hD2.1 hL2.1
  by_cases hr : Pos.Up D (a1 % 2 ^ D.toNat) L = L
  · exact order_root a0 a1 a2 a3 D _ _ L hD hL rfl rfl hD2.1 hD2.2 hL2.1 hL2.2 h1 h2 h3 h4 u.1 u.2 v.1 v.2 w hr hT
  · exact order_more a0 a1 a2 a3 D _ _ L hD hL rfl rfl hD2.1 hD2.2 hL2.1 hL2.2 h1 h2 h3 h4 u.1 u.2 v.1 v.2 w (by omega) hT
end Go.Proofs.YtlbbnflchkejgaaDoor
