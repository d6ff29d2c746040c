/-
  Contracts of bits.TrailingZeros64, position.Trace, Highest. Own work; the table's arithmetic is the shelf's.
-/
import Derived.Test.YtlbbnflchkejgaaDoorPos
import Derived.Test.YtlbbnflchkejgaaDoorMm
import Derived.Test.YtlbbnflchkejgaaDoorLaid
import Derived.Test.YtlbbnflchkejgaaDoorRow
namespace Go.Proofs.YtlbbnflchkejgaaDoor
open Go.RowKit
set_option linter.unusedVariables false
namespace Pos
set_option maxHeartbeats 1000000 in
theorem tz_core (x k idx : Nat) (w : World) (hx0 : ((x : Int) == 0) = false)
    (key : IntKind.u64.wrap (bits BinOp.and IntKind.u64 (x : Int) (IntKind.u64.wrap (-(x : Int))) * 285870213051353865) / 288230376151711744 = (idx : Int))
    (hi : idx < 64) (hk : k < 64) (hcell : w.cell? ⟨0, idx, none⟩ = some (.int .u8 k)) :
    Calls Tryd.prog 23 #[.int .u64 x] w fun e w' => e = .returned (.int .i64 k) ∧ w = w' := by
  go_enter Tryd.func23, Tryd.ntmps23
  go_wp2_with (simp only [key])
  go_ret
  exact ⟨rfl, rfl⟩
/-- The number of noughts at the end of x. -/
theorem tz_any (x : Int) (w : World) (h0 : 1 ≤ x) (h1 : x ≤ 18446744073709551615) (hT : TabAt 0 Lib.deBruijn64tab w) :
    Calls Tryd.prog 23 #[.int .u64 x] w fun e w' => e = .returned (.int .i64 (Lib.ctz 64 x.toNat : Nat)) ∧ w = w' := by
  obtain ⟨n, rfl⟩ := Int.eq_ofNat_of_zero_le (show 0 ≤ x by omega)
  have hn0 : n ≠ 0 := by omega
  have hn : n < 18446744073709551616 := by omega
  obtain ⟨hlow, hk⟩ := Lib.lowest_bit 64 n hn0 hn
  obtain ⟨hi, htab⟩ := Lib.deBruijn64_at _ hk
  have hcell := hT _ hi
  rw [htab] at hcell
  rw [Int.toNat_natCast]
  exact tz_core n _ _ w (by simp; omega) (tz64_key n _ hn hn0 hlow) hi hk hcell
theorem tab_drew {g : Nat} {l : List Nat} {w : World} {n : Nat} (h : TabAt g l w) : TabAt g l (w.drewN n) := fun j hj => h j hj

theorem mul_p2 (a b : Nat) (h : b ≤ a) : (2 : Int) ^ (a - b) * 2 ^ b = 2 ^ a := by rw [← Int.pow_add]; congr 1; omega
/-- The last trace index below a position, and one. -/
def T (d i k : Int) : Int := (i + 1) * 2 ^ (k - d).toNat
theorem T_pos (d i k : Int) (i0 : 0 ≤ i) : 1 ≤ T d i k := by
  unfold T
  have := Int.mul_pos (show 0 < i + 1 by omega) (p2_pos (k - d).toNat)
  omega
theorem T_le (d i k : Int) (h0 : 0 ≤ d) (i1 : i < 2 ^ d.toNat) (hk : d ≤ k) : T d i k ≤ 2 ^ k.toNat := by
  unfold T
  have h := Int.mul_le_mul_of_nonneg_right (show i + 1 ≤ 2 ^ d.toNat by omega) (Int.le_of_lt (p2_pos (k - d).toNat))
  have e : (2 : Int) ^ d.toNat * 2 ^ (k - d).toNat = 2 ^ k.toNat := by rw [← Int.pow_add]; congr 1; omega
  omega
set_option maxHeartbeats 400000 in
theorem trace_ok (p d i k : Int) (w : World) (h0 : 0 ≤ d) (hk : d ≤ k) (h1 : k ≤ 24) (i0 : 0 ≤ i) (i1 : i < 2 ^ d.toNat) (hp : p = 2 ^ d.toNat + i) :
    Calls Tryd.prog 9 #[.int .u64 p, .int .i64 k] w fun e w' => e = .returned (.tuple #[.int .u64 (T d i k - 1), .nilIface]) ∧ ∃ n, w' = w.drewN n := by
  have a1 := p2_pos (k - d).toNat
  have a2 := p2_nat (k - d).toNat 24 (by omega)
  have a3 := p2_le d (by omega)
  have t1 := T_pos d i k i0
  have t2 := T_le d i k h0 i1 hk
  have t3 := p2_le k h1
  have eT : (i + 1) * 2 ^ (k - d).toNat = T d i k := rfl
  have H3 := Lib.hid hp
  have H4 := Lib.hid i1
  have b5 : i < 16777216 := by omega
  clear hp i1
  go_enter Tryd.func9, Tryd.ntmps9
  go_wp2_with fail
  refine (parts_ok p d i _ h0 (by omega) i0 H4.out H3.out).mono ?_
  rintro e w' ⟨rfl, q, rfl⟩
  go_wp2_with fail
  go_ret2
  exact ⟨rfl, _, rfl⟩
theorem trace_shallow (p d i k : Int) (w : World) (h0 : 0 ≤ d) (h1 : d ≤ 24) (hk : k < d) (i0 : 0 ≤ i) (i1 : i < 2 ^ d.toNat) (hp : p = 2 ^ d.toNat + i) :
    Calls Tryd.prog 9 #[.int .u64 p, .int .i64 k] w fun e w' => e = .returned (.tuple #[.int .u64 0, .iface 33 (.int .i64 2)]) ∧ ∃ n, w' = w.drewN n := by
  have H3 := Lib.hid hp
  have H4 := Lib.hid i1
  clear hp i1
  go_enter Tryd.func9, Tryd.ntmps9
  go_wp2_with fail
  refine (parts_ok p d i _ h0 (by omega) i0 H4.out H3.out).mono ?_
  rintro e w' ⟨rfl, q, rfl⟩
  go_wp2_with fail
  go_ret2
  exact ⟨rfl, _, rfl⟩
/-- How far up the highest position with the same trace index lies. -/
def Up (d i k : Int) : Int := min (Lib.ctz 64 (T d i k).toNat : Nat) k
def HI (d i k : Int) : Int := T d i k / 2 ^ (Up d i k).toNat - 1
theorem Up_le (d i k : Int) (h0 : 0 ≤ d) (hk : d ≤ k) : 0 ≤ Up d i k ∧ Up d i k ≤ k := by unfold Up; omega
theorem ctz_dvd (x : Nat) (h0 : 0 < x) (h : x < 2 ^ 64) (u : Nat) (hu : u ≤ Lib.ctz 64 x) : ∃ m, x = 2 ^ u * m := by
  obtain ⟨m, hm, _⟩ := Lib.ctzFrom_spec 64 x h0 h
  have e : Lib.ctz 64 x = Lib.ctzFrom 64 x := by simp [Lib.ctz, Nat.ne_of_gt h0]
  rw [e] at hu
  refine ⟨2 ^ (Lib.ctzFrom 64 x - u) * (2 * m + 1), ?_⟩
  rw [← Nat.mul_assoc, ← Nat.pow_add, show u + (Lib.ctzFrom 64 x - u) = Lib.ctzFrom 64 x by omega]
  exact hm
/-- The parts of what is highest: T is a multiple; its index fits. -/
theorem HI_spec (d i k : Int) (h0 : 0 ≤ d) (hk : d ≤ k) (h1 : k ≤ 24) (i0 : 0 ≤ i) (i1 : i < 2 ^ d.toNat) :
    (HI d i k + 1) * 2 ^ (Up d i k).toNat = T d i k ∧ 0 ≤ HI d i k ∧ HI d i k < 2 ^ (k - Up d i k).toNat := by
  have t1 := T_pos d i k i0
  have t2 := T_le d i k h0 i1 hk
  have t3 := p2_le k h1
  have u := Up_le d i k h0 hk
  have up := p2_pos (Up d i k).toNat
  obtain ⟨m, hm⟩ := ctz_dvd (T d i k).toNat (by omega) (by omega) (Up d i k).toNat (by unfold Up; omega)
  have hm2 : T d i k = 2 ^ (Up d i k).toNat * (m : Int) := by
    have h9 : ((T d i k).toNat : Int) = ((2 ^ (Up d i k).toNat * m : Nat) : Int) := by rw [← hm]
    rw [Int.toNat_of_nonneg (by omega)] at h9
    rw [h9]
    simp
  have hq : T d i k / 2 ^ (Up d i k).toNat = m := by rw [hm2, Int.mul_ediv_cancel_left _ (by omega)]
  have hH : HI d i k = m - 1 := by unfold HI; rw [hq]
  have m1 : 1 ≤ (m : Int) := by
    rcases Nat.eq_zero_or_pos m with h | h
    · subst h; simp at hm2; omega
    · omega
  refine ⟨?_, by omega, ?_⟩
  · rw [hH, hm2, Int.mul_comm]; congr 1; omega
  · have e : (2 : Int) ^ k.toNat = 2 ^ (Up d i k).toNat * 2 ^ (k - Up d i k).toNat := by rw [← Int.pow_add]; congr 1; omega
    rw [e, hm2] at t2
    have := Int.le_of_mul_le_mul_left t2 up
    omega
set_option maxHeartbeats 800000 in
theorem highest_ok (p d i k : Int) (w : World) (h0 : 0 ≤ d) (hk : d ≤ k) (h1 : k ≤ 24) (i0 : 0 ≤ i) (i1 : i < 2 ^ d.toNat) (hp : p = 2 ^ d.toNat + i) (hT : TabAt 0 Lib.deBruijn64tab w) :
    Calls Tryd.prog 12 #[.int .u64 p, .int .i64 k] w fun e w' => e = .returned (.tuple #[.int .u64 (2 ^ (k - Up d i k).toNat + HI d i k), .nilIface]) ∧ ∃ n, w' = w.drewN n := by
  have hmn := @Mm.run_min2 Tryd.prog
  have t1 := T_pos d i k i0
  have t2 := T_le d i k h0 i1 hk
  have t3 := p2_le k h1
  have u := Up_le d i k h0 hk
  have up := p2_pos (Up d i k).toNat
  have hs := HI_spec d i k h0 hk h1 i0 i1
  have eU : min ((Lib.ctz 64 (T d i k).toNat : Nat) : Int) k = Up d i k := rfl
  have eH : T d i k / 2 ^ (Up d i k).toNat - 1 = HI d i k := rfl
  have s1 : 1 ≤ T d i k / 2 ^ (Up d i k).toNat := by have := hs.2.1; omega
  have s2 : T d i k / 2 ^ (Up d i k).toNat ≤ 16777216 := by have := Int.ediv_le_self (2 ^ (Up d i k).toNat) (show 0 ≤ T d i k by omega); omega
  have HT := Lib.hid hT
  have HS := Lib.hid hs
  have H3 := Lib.hid hp
  have H4 := Lib.hid i1
  clear hp i1 hs hT
  go_enter Tryd.func12, Tryd.ntmps12
  go_wp2_with fail
  refine (trace_ok p d i k _ h0 hk h1 i0 H4.out H3.out).mono ?_
  rintro e w' ⟨rfl, q, rfl⟩
  go_wp2_with fail
  refine (tz_any _ _ (by omega) (by omega) (tab_drew HT.out)).mono ?_
  rintro e w' ⟨rfl, rfl⟩
  go_wp2_with fail
  refine (make_ok (k - Up d i k) (HI d i k) _ (by omega) (by omega) HS.out.2.1 HS.out.2.2).mono ?_
  rintro e w' ⟨rfl, q, rfl⟩
  go_wp2_with fail
  go_ret2
  exact ⟨rfl, _, rfl⟩
/-- The highest position has the same trace index. -/
theorem T_top (d i k : Int) (h0 : 0 ≤ d) (hk : d ≤ k) (h1 : k ≤ 24) (i0 : 0 ≤ i) (i1 : i < 2 ^ d.toNat) : T (k - Up d i k) (HI d i k) k = T d i k := by
  have hs := HI_spec d i k h0 hk h1 i0 i1
  have e : k - (k - Up d i k) = Up d i k := by omega
  have e2 : T (k - Up d i k) (HI d i k) k = (HI d i k + 1) * 2 ^ (k - (k - Up d i k)).toNat := rfl
  rw [e2, e]; exact hs.1
theorem dvd_ctz (x u : Nat) (h0 : 0 < x) (h : x < 2 ^ 64) (m : Nat) (hm : x = 2 ^ u * m) : u ≤ Lib.ctz 64 x := by
  obtain ⟨m2, hm2, _⟩ := Lib.ctzFrom_spec 64 x h0 h
  have e : Lib.ctz 64 x = Lib.ctzFrom 64 x := by simp [Lib.ctz, Nat.ne_of_gt h0]
  rw [e]
  rcases Nat.lt_or_ge (Lib.ctzFrom 64 x) u with hlt | hge
  · exfalso
    generalize Lib.ctzFrom 64 x = c at hm2 hlt
    obtain ⟨r, rfl⟩ : ∃ r, u = c + (r + 1) := ⟨u - c - 1, by omega⟩
    rw [hm, Nat.pow_add, Nat.mul_assoc] at hm2
    have h3 := Nat.eq_of_mul_eq_mul_left (Nat.two_pow_pos c) hm2
    rw [Nat.pow_succ, Nat.mul_comm (2 ^ r) 2, Nat.mul_assoc] at h3
    omega
  · exact hge
/-- The highest position is no deeper, and no greater. -/
theorem top_le (d i k : Int) (h0 : 0 ≤ d) (hk : d ≤ k) (h1 : k ≤ 24) (i0 : 0 ≤ i) (i1 : i < 2 ^ d.toNat) : 2 ^ (k - Up d i k).toNat + HI d i k ≤ 2 ^ d.toNat + i := by
  have t1 := T_pos d i k i0
  have t2 := T_le d i k h0 i1 hk
  have t3 := p2_le k h1
  have u := Up_le d i k h0 hk
  have hs := HI_spec d i k h0 hk h1 i0 i1
  have hc : (k - d).toNat ≤ Lib.ctz 64 (T d i k).toNat := by
    refine dvd_ctz _ _ (by omega) (by omega) (i + 1).toNat ?_
    have : ((T d i k).toNat : Int) = ((2 ^ (k - d).toNat * (i + 1).toNat : Nat) : Int) := by
      rw [Int.toNat_of_nonneg (by omega), Int.natCast_mul, Int.toNat_of_nonneg (by omega), Int.mul_comm]
      unfold T
      simp
    exact_mod_cast this
  have hU : k - d ≤ Up d i k := by unfold Up; omega
  have p1 := p2_nat (k - Up d i k).toNat d.toNat (by omega)
  have p3 := p2_nat (k - d).toNat (Up d i k).toNat (by omega)
  have p4 := Int.mul_le_mul_of_nonneg_left p3 (show 0 ≤ HI d i k + 1 by omega)
  have p5 : (HI d i k + 1) * 2 ^ (k - d).toNat ≤ (i + 1) * 2 ^ (k - d).toNat := by
    have e : (i + 1) * 2 ^ (k - d).toNat = T d i k := rfl
    omega
  have p6 := Int.le_of_mul_le_mul_right p5 (p2_pos (k - d).toNat)
  omega
end Pos
set_option maxHeartbeats 4000000 in
theorem attack_deep (w : World) :
    Calls Tryd.prog 10 #[.int .u64 16777216] w fun e w' => e = .returned (.tuple #[.int .u64 0, .iface 33 (.int .i64 2)]) ∧ ∃ n, w' = w.drewN n := by
  go_enter Tryd.func10, Tryd.ntmps10
  go_wp2_with fail
  refine (Pos.parts_ok 16777216 24 0 _ (by decide) (by decide) (by decide) (by decide) (by decide)).mono ?_
  rintro e w' ⟨rfl, q, rfl⟩
  go_wp2_with fail
  refine (Pos.make_deep 25 0 _ (by decide)).mono ?_
  rintro e w' ⟨rfl, q, rfl⟩
  go_wp2_with fail
  go_ret2
  exact ⟨rfl, _, rfl⟩
set_option maxRecDepth 100000 in
set_option maxHeartbeats 4000000 in
theorem positionKnown_walk (w : World) (hT : TabAt 0 Lib.deBruijn64tab w) :
    Calls Tryd.prog 3 #[] w fun e w' => e = .returned (.bool true) ∧ Below w.heap.size w w' := by
  have HT := Lib.hid hT
  clear hT
  go_enter Tryd.func3, Tryd.ntmps3
  go_wp2_with fail
  refine (Pos.make_ok 2 1 _ (by decide) (by decide) (by decide) (by decide)).mono ?_
  rintro e w' ⟨rfl, q, rfl⟩
  rw [show (2 : Int) ^ (2 : Int).toNat + 1 = 5 by decide]
  go_wp2_with fail
  refine (Pos.parts_ok 5 2 1 _ (by decide) (by decide) (by decide) (by decide) (by decide)).mono ?_
  rintro e w' ⟨rfl, q, rfl⟩
  go_wp2_with fail
  refine (Pos.trace_ok 5 2 1 4 _ (by decide) (by decide) (by decide) (by decide) (by decide) (by decide)).mono ?_
  rintro e w' ⟨rfl, q, rfl⟩
  rw [show Pos.T 2 1 4 - 1 = 7 by decide]
  go_wp2_with fail
  refine (Pos.attack_ok 5 2 1 _ (by decide) (by decide) (by decide) (by decide) (by decide)).mono ?_
  rintro e w' ⟨rfl, q, rfl⟩
  go_wp2_with fail
  refine (Pos.defend_ok 5 2 1 _ (by decide) (by decide) (by decide) (by decide) (by decide)).mono ?_
  rintro e w' ⟨rfl, q, rfl⟩
  go_wp2_with fail
  refine (Pos.highest_ok 5 2 1 2 _ (by decide) (by decide) (by decide) (by decide) (by decide) (by decide) (Pos.tab_drew HT.out)).mono ?_
  rintro e w' ⟨rfl, q, rfl⟩
  rw [show (2 : Int) ^ (2 - Pos.Up 2 1 2).toNat + Pos.HI 2 1 2 = 2 by decide +kernel]
  go_wp2_with fail
  refine (Pos.trace_shallow 5 2 1 1 _ (by decide) (by decide) (by decide) (by decide) (by decide) (by decide)).mono ?_
  rintro e w' ⟨rfl, q, rfl⟩
  go_wp2_with fail
  refine (attack_deep _).mono ?_
  rintro e w' ⟨rfl, q, rfl⟩
  go_wp2_with fail
  refine (Pos.parts_bad 0 _ (by decide)).mono ?_
  rintro e w' ⟨rfl, q, rfl⟩
  go_wp2_with fail
  refine (fixed_true _).mono ?_
  rintro e w' ⟨rfl, q, rfl⟩
  go_wp2_with fail
  refine (Err.is_num _ _ _).mono ?_
  rintro e w' ⟨rfl, rfl⟩
  go_wp2_with fail
  refine (Err.is_num _ _ _).mono ?_
  rintro e w' ⟨rfl, rfl⟩
  go_wp2_with fail
  refine (Err.is_num _ _ _).mono ?_
  rintro e w' ⟨rfl, rfl⟩
  go_wp2_with fail
  go_ret
  exact ⟨rfl, below_drewN (Below.refl _ _) _⟩
end Go.Proofs.YtlbbnflchkejgaaDoor
