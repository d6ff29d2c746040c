/-
  Contracts of the document's own answers of layer 16. Own work.
-/
import Derived.Test.YtlbbnflchkejgaaDoorTz
import Derived.LoopTactic
namespace Go.Proofs.YtlbbnflchkejgaaDoor
open Go.RowKit
set_option linter.unusedVariables false
namespace RefP
def MkRel (d : Int) (vp vi : Value) : Prop := ∃ j : Nat, (j : Int) ≤ d ∧ vp = .int .u64 (2 ^ j) ∧ vi = .int .i64 j
theorem up2 (j : Nat) : (2 : Int) ^ (j + 1) = 2 * 2 ^ j := by rw [Int.pow_succ]; omega
set_option maxHeartbeats 400000 in
theorem make_ok (d i : Int) (w : World) (h0 : 0 ≤ d) (h1 : d ≤ 24) (i0 : 0 ≤ i) (i1 : i < 2 ^ d.toNat) :
    Calls Tryd.prog 15 #[.int .i64 d, .int .u64 i] w fun e w' => e = .returned (.tuple #[.int .u64 (2 ^ d.toNat + i), .int .i64 0]) ∧ w = w' := by
  have hp := Pos.p2_le d h1
  have hp0 := Pos.p2_pos d.toNat
  obtain ⟨n, hn⟩ : ∃ n : Nat, d.toNat = n := ⟨_, rfl⟩
  have hd : d = n := by omega
  subst hd
  rw [Int.toNat_natCast] at i1 hp hp0
  have I1 := Lib.hid i1
  clear hn i1
  go_enter Tryd.func15, Tryd.ntmps15
  go_wp2
  go_loop [6, 7] (MkRel n) (fun _ vi => n - (intOf vi).toNat)
  case atStart => exact ⟨0, by omega, rfl, rfl⟩
  case round =>
    obtain ⟨j, hj, rfl, rfl⟩ := hrel
    have a1 := Pos.p2_pos j
    have a2 := Pos.p2_nat j 24 (by omega)
    by_cases hlt : (j : Int) < n
    · go_wp2
      go_round
      case rel => exact ⟨j + 1, by omega, by rw [up2, Int.mul_comm], by go_num⟩
      case measure => simp [intOf]; omega
    · obtain rfl : j = n := by omega
      have hi := I1.out
      go_wp2
      go_ret2
      exact ⟨by simp, rfl⟩
set_option maxHeartbeats 400000 in
theorem make_wide (d i : Int) (w : World) (h0 : 0 ≤ d) (h1 : d ≤ 24) (i0 : 0 ≤ i) (i1 : 2 ^ d.toNat ≤ i) :
    Calls Tryd.prog 15 #[.int .i64 d, .int .u64 i] w fun e w' => e = .returned (.tuple #[.int .u64 0, .int .i64 2]) ∧ w = w' := by
  have hp := Pos.p2_le d h1
  have hp0 := Pos.p2_pos d.toNat
  obtain ⟨n, hn⟩ : ∃ n : Nat, d.toNat = n := ⟨_, rfl⟩
  have hd : d = n := by omega
  subst hd
  rw [Int.toNat_natCast] at i1 hp hp0
  have I1 := Lib.hid i1
  clear hn i1
  go_enter Tryd.func15, Tryd.ntmps15
  go_wp2
  go_loop [6, 7] (MkRel n) (fun _ vi => n - (intOf vi).toNat)
  case atStart => exact ⟨0, by omega, rfl, rfl⟩
  case round =>
    obtain ⟨j, hj, rfl, rfl⟩ := hrel
    have a1 := Pos.p2_pos j
    have a2 := Pos.p2_nat j 24 (by omega)
    by_cases hlt : (j : Int) < n
    · go_wp2
      go_round
      case rel => exact ⟨j + 1, by omega, by rw [up2, Int.mul_comm], by go_num⟩
      case measure => simp [intOf]; omega
    · obtain rfl : j = n := by omega
      have hi := I1.out
      go_wp2
      go_ret2
      exact ⟨rfl, rfl⟩
theorem make_deep (d i : Int) (w : World) (h : d < 0 ∨ 24 < d) :
    Calls Tryd.prog 15 #[.int .i64 d, .int .u64 i] w fun e w' => e = .returned (.tuple #[.int .u64 0, .int .i64 2]) ∧ w = w' := by
  rcases h with h | h
  · go_enter Tryd.func15, Tryd.ntmps15
    go_wp2
    go_ret2
    exact ⟨rfl, rfl⟩
  · have h0 : ¬ d < 0 := by omega
    go_enter Tryd.func15, Tryd.ntmps15
    go_wp2
    go_ret2
    exact ⟨rfl, rfl⟩
def PaRel (d : Int) (vf vd : Value) : Prop := ∃ j : Nat, (j : Int) ≤ d ∧ vf = .int .u64 (2 ^ j) ∧ vd = .int .i64 j
set_option maxHeartbeats 800000 in
theorem parts_ok (p d i : Int) (w : World) (h0 : 0 ≤ d) (h1 : d ≤ 24) (i0 : 0 ≤ i) (i1 : i < 2 ^ d.toNat) (hp : p = 2 ^ d.toNat + i) :
    Calls Tryd.prog 16 #[.int .u64 p] w fun e w' => e = .returned (.tuple #[.int .i64 d, .int .u64 i, .int .i64 0]) ∧ w = w' := by
  obtain ⟨n, hn⟩ : ∃ n : Nat, d.toNat = n := ⟨_, rfl⟩
  have hd : d = n := by omega
  subst hd
  rw [Int.toNat_natCast] at i1 hp
  have pn := Pos.p2_nat n 24 (by omega)
  have pn0 := Pos.p2_pos n
  have b1 : 0 < p := by omega
  have b2 : p < 33554432 := by omega
  have H := Lib.hid hp
  have H1 := Lib.hid i1
  clear hp i1
  go_enter Tryd.func16, Tryd.ntmps16
  go_wp2
  go_loop [5, 6] (PaRel n) (fun _ vd => n - (intOf vd).toNat)
  case atStart => exact ⟨0, by omega, rfl, rfl⟩
  case round =>
    obtain ⟨j, hj, rfl, rfl⟩ := hrel
    have a1 := Pos.p2_pos j
    have a2 := Pos.p2_nat j 24 (by omega)
    by_cases hlt : j < n
    · have a3 := Pos.p2_nat (j + 1) n (by omega)
      rw [up2] at a3
      have c1 : 2 ^ j ≤ p := by have := H.out; omega
      have c2 : ¬ p < 2 * 2 ^ j := by have := H.out; omega
      clear a3
      go_wp2
      go_round
      case rel => exact ⟨j + 1, by omega, by rw [up2, Int.mul_comm], by go_num⟩
      case measure => simp [intOf]; omega
    · obtain rfl : j = n := by omega
      have c1 : 2 ^ j ≤ p := by have := H.out; omega
      have c2 : p < 2 * 2 ^ j := by have := H.out; have := H1.out; omega
      have E := Lib.hid (show p - 2 ^ j = i by have := H.out; omega)
      go_wp2
      go_ret3
      exact ⟨by rw [E.out]; rfl, rfl⟩
def PbRel (vf vd : Value) : Prop := ∃ j : Nat, j ≤ 25 ∧ vf = .int .u64 (2 ^ j) ∧ vd = .int .i64 j
set_option maxHeartbeats 800000 in
theorem parts_bad (p : Int) (w : World) (h : p = 0 ∨ 33554432 ≤ p) :
    Calls Tryd.prog 16 #[.int .u64 p] w fun e w' => e = .returned (.tuple #[.int .i64 0, .int .u64 0, .int .i64 2]) ∧ w = w' := by
  have H := Lib.hid h
  clear h
  go_enter Tryd.func16, Tryd.ntmps16
  go_wp2
  go_loop [5, 6] PbRel (fun _ vd => 25 - (intOf vd).toNat)
  case atStart => exact ⟨0, by omega, rfl, rfl⟩
  case round =>
    obtain ⟨j, hj, rfl, rfl⟩ := hrel
    have a1 := Pos.p2_pos j
    have a2 := Pos.p2_nat j 25 hj
    by_cases hlt : j < 25
    · have a3 := Pos.p2_nat j 24 (by omega)
      by_cases hz : 2 ^ j ≤ p
      · have c2 : ¬ p < 2 * 2 ^ j := by have := H.out; omega
        go_wp2
        go_round
        case rel => exact ⟨j + 1, by omega, by rw [up2, Int.mul_comm], by go_num⟩
        case measure => simp [intOf]; omega
      · go_wp2
        go_round
        case rel => exact ⟨j + 1, by omega, by rw [up2, Int.mul_comm], by go_num⟩
        case measure => simp [intOf]; omega
    · obtain rfl : j = 25 := by omega
      go_wp2
      go_ret3
      exact ⟨rfl, rfl⟩
def TrRel (d i k : Int) (vi vk : Value) : Prop := ∃ j : Nat, d + j ≤ k ∧ vi = .int .u64 (Pos.T d i (d + j) - 1) ∧ vk = .int .i64 (d + j)
theorem T_next (d i : Int) (j : Nat) : Pos.T d i (d + (j + 1 : Nat)) = 2 * Pos.T d i (d + j) := by
  unfold Pos.T
  rw [show (d + ((j + 1 : Nat) : Int) - d).toNat = j + 1 by omega, show (d + (j : Int) - d).toNat = j by omega, up2, Int.mul_comm 2, ← Int.mul_assoc, Int.mul_comm _ 2]
set_option maxHeartbeats 800000 in
theorem trace_ok (p d i k : Int) (w : World) (h0 : 0 ≤ d) (hk : d ≤ k) (h1 : k ≤ 24) (i0 : 0 ≤ i) (i1 : i < 2 ^ d.toNat) (hp : p = 2 ^ d.toNat + i) :
    Calls Tryd.prog 18 #[.int .u64 p, .int .i64 k] w fun e w' => e = .returned (.tuple #[.int .u64 (Pos.T d i k - 1), .int .i64 0]) ∧ w = w' := by
  have H := Lib.hid hp
  have H1 := Lib.hid i1
  have q1 : decide (k < d) = false := by simpa using hk
  have q2 : decide (24 < k) = false := by simpa using h1
  clear hp i1
  go_enter Tryd.func18, Tryd.ntmps18
  go_wp2_with fail
  refine (parts_ok p d i _ h0 (by omega) i0 H1.out H.out).mono ?_
  rintro e w' ⟨rfl, rfl⟩
  go_wp2_with fail
  go_loop [7, 9] (TrRel d i k) (fun _ vk => (k - intOf vk).toNat)
  case atStart => exact ⟨0, by omega, by congr 1; unfold Pos.T; simp, by simp⟩
  case round =>
    obtain ⟨j, hj, rfl, rfl⟩ := hrel
    have t1 := Pos.T_pos d i (d + j) i0
    have t2 := Pos.T_le d i (d + j) h0 H1.out (by omega)
    have t3 := Pos.p2_le (d + j) (by omega)
    by_cases hlt : d + (j : Int) < k
    · have TN := Lib.hid (T_next d i j)
      go_wp2
      go_round
      case rel => exact ⟨j + 1, by omega, by rw [TN.out]; congr 1; omega, by congr 1; omega⟩
      case measure => simp [intOf]; omega
    · obtain rfl : d + (j : Int) = k := by omega
      go_wp2
      go_ret2
      exact ⟨rfl, rfl⟩
theorem trace_bad (p : Int) (k : Int) (w : World) (h : p = 0 ∨ 33554432 ≤ p) :
    Calls Tryd.prog 18 #[.int .u64 p, .int .i64 k] w fun e w' => e = .returned (.tuple #[.int .u64 0, .int .i64 2]) ∧ w = w' := by
  have H := Lib.hid h
  clear h
  go_enter Tryd.func18, Tryd.ntmps18
  go_wp2_with fail
  refine (parts_bad p _ H.out).mono ?_
  rintro e w' ⟨rfl, rfl⟩
  go_wp2_with fail
  go_ret2
  exact ⟨rfl, rfl⟩
theorem trace_out (p d i k : Int) (w : World) (h0 : 0 ≤ d) (h1 : d ≤ 24) (hk : k < d ∨ 24 < k) (i0 : 0 ≤ i) (i1 : i < 2 ^ d.toNat) (hp : p = 2 ^ d.toNat + i) :
    Calls Tryd.prog 18 #[.int .u64 p, .int .i64 k] w fun e w' => e = .returned (.tuple #[.int .u64 0, .int .i64 2]) ∧ w = w' := by
  have H := Lib.hid hp
  have H1 := Lib.hid i1
  clear hp i1
  by_cases hk1 : k < d
  · go_enter Tryd.func18, Tryd.ntmps18
    go_wp2_with fail
    refine (parts_ok p d i _ h0 (by omega) i0 H1.out H.out).mono ?_
    rintro e w' ⟨rfl, rfl⟩
    go_wp2_with fail
    go_ret2
    exact ⟨rfl, rfl⟩
  · have hk2 : 24 < k := by omega
    go_enter Tryd.func18, Tryd.ntmps18
    go_wp2_with fail
    refine (parts_ok p d i _ h0 (by omega) i0 H1.out H.out).mono ?_
    rintro e w' ⟨rfl, rfl⟩
    go_wp2_with fail
    go_ret2
    exact ⟨rfl, rfl⟩
theorem attack_bad (p : Int) (w : World) (h : p = 0 ∨ 33554432 ≤ p) :
    Calls Tryd.prog 19 #[.int .u64 p] w fun e w' => e = .returned (.tuple #[.int .u64 0, .int .i64 2]) ∧ w = w' := by
  have H := Lib.hid h
  clear h
  go_enter Tryd.func19, Tryd.ntmps19
  go_wp2_with fail
  refine (parts_bad p _ H.out).mono ?_
  rintro e w' ⟨rfl, rfl⟩
  go_wp2_with fail
  go_ret2
  exact ⟨rfl, rfl⟩
theorem attack_ok (p d i : Int) (w : World) (h0 : 0 ≤ d) (h1 : d ≤ 23) (i0 : 0 ≤ i) (i1 : i < 2 ^ d.toNat) (hp : p = 2 ^ d.toNat + i) :
    Calls Tryd.prog 19 #[.int .u64 p] w fun e w' => e = .returned (.tuple #[.int .u64 (2 * p), .int .i64 0]) ∧ w = w' := by
  have a2 := Pos.p2_le d (by omega)
  have hs := Pos.p2_succ d h0
  have B1 := Lib.hid (show 2 * i < 2 ^ (d + 1).toNat by omega)
  have B2 := Lib.hid (show 2 ^ (d + 1).toNat + 2 * i = 2 * p by omega)
  have H := Lib.hid hp
  have H1 := Lib.hid i1
  have b5 : i < 16777216 := by omega
  clear hp i1 hs a2
  go_enter Tryd.func19, Tryd.ntmps19
  go_wp2_with fail
  refine (parts_ok p d i _ h0 (by omega) i0 H1.out H.out).mono ?_
  rintro e w' ⟨rfl, rfl⟩
  go_wp2_with fail
  refine (make_ok _ _ _ (by omega) (by omega) (by omega) B1.out).mono ?_
  rintro e w' ⟨rfl, rfl⟩
  go_wp2_with fail
  go_ret2
  exact ⟨by rw [B2.out]; rfl, rfl⟩
theorem attack_deep (p i : Int) (w : World) (i0 : 0 ≤ i) (i1 : i < 2 ^ (24 : Int).toNat) (hp : p = 2 ^ (24 : Int).toNat + i) :
    Calls Tryd.prog 19 #[.int .u64 p] w fun e w' => e = .returned (.tuple #[.int .u64 0, .int .i64 2]) ∧ w = w' := by
  have H := Lib.hid hp
  have H1 := Lib.hid i1
  have b5 : i < 16777216 := by simpa using i1
  clear hp i1
  go_enter Tryd.func19, Tryd.ntmps19
  go_wp2_with fail
  refine (parts_ok p 24 i _ (by decide) (by decide) i0 H1.out H.out).mono ?_
  rintro e w' ⟨rfl, rfl⟩
  go_wp2_with fail
  refine (make_deep 25 (2 * i) _ (by decide)).mono ?_
  rintro e w' ⟨rfl, rfl⟩
  go_wp2_with fail
  go_ret2
  exact ⟨rfl, rfl⟩
theorem defend_bad (p : Int) (w : World) (h : p = 0 ∨ 33554432 ≤ p) :
    Calls Tryd.prog 20 #[.int .u64 p] w fun e w' => e = .returned (.tuple #[.int .u64 0, .int .i64 2]) ∧ w = w' := by
  have H := Lib.hid h
  clear h
  go_enter Tryd.func20, Tryd.ntmps20
  go_wp2_with fail
  refine (parts_bad p _ H.out).mono ?_
  rintro e w' ⟨rfl, rfl⟩
  go_wp2_with fail
  go_ret2
  exact ⟨rfl, rfl⟩
theorem defend_deep (p i : Int) (w : World) (i0 : 0 ≤ i) (i1 : i < 2 ^ (24 : Int).toNat) (hp : p = 2 ^ (24 : Int).toNat + i) :
    Calls Tryd.prog 20 #[.int .u64 p] w fun e w' => e = .returned (.tuple #[.int .u64 0, .int .i64 2]) ∧ w = w' := by
  have H := Lib.hid hp
  have H1 := Lib.hid i1
  clear hp i1
  go_enter Tryd.func20, Tryd.ntmps20
  go_wp2_with fail
  refine (parts_ok p 24 i _ (by decide) (by decide) i0 H1.out H.out).mono ?_
  rintro e w' ⟨rfl, rfl⟩
  go_wp2_with fail
  go_ret2
  exact ⟨rfl, rfl⟩
theorem defend_ok (p d i : Int) (w : World) (h0 : 0 ≤ d) (h1 : d ≤ 23) (i0 : 0 ≤ i) (i1 : i + 1 < 2 ^ d.toNat) (hp : p = 2 ^ d.toNat + i) :
    Calls Tryd.prog 20 #[.int .u64 p] w fun e w' => e = .returned (.tuple #[.int .u64 (2 * (p + 1)), .int .i64 0]) ∧ w = w' := by
  have a2 := Pos.p2_le d (by omega)
  have hs := Pos.p2_succ d h0
  have b7 : (d == 24) = false := by rw [beq_eq_false_iff_ne]; omega
  have B1 := Lib.hid (show 2 * i + 2 < 2 ^ (d + 1).toNat by omega)
  have B2 := Lib.hid (show 2 ^ (d + 1).toNat + (2 * i + 2) = 2 * (p + 1) by omega)
  have H := Lib.hid hp
  have H1 := Lib.hid (show i < 2 ^ d.toNat by omega)
  have b5 : i < 16777216 := by omega
  clear hp i1 hs a2
  go_enter Tryd.func20, Tryd.ntmps20
  go_wp2_with fail
  refine (parts_ok p d i _ h0 (by omega) i0 H1.out H.out).mono ?_
  rintro e w' ⟨rfl, rfl⟩
  go_wp2_with fail
  refine (make_ok _ _ _ (by omega) (by omega) (by omega) B1.out).mono ?_
  rintro e w' ⟨rfl, rfl⟩
  go_wp2_with fail
  go_ret2
  exact ⟨by rw [B2.out]; rfl, rfl⟩
theorem defend_last (p d i : Int) (w : World) (h0 : 0 ≤ d) (h1 : d ≤ 23) (i0 : 0 ≤ i) (i1 : i + 1 = 2 ^ d.toNat) (hp : p = 2 ^ d.toNat + i) :
    Calls Tryd.prog 20 #[.int .u64 p] w fun e w' => e = .returned (.tuple #[.int .u64 0, .int .i64 45]) ∧ w = w' := by
  have a2 := Pos.p2_le d (by omega)
  have hs := Pos.p2_succ d h0
  have b7 : (d == 24) = false := by rw [beq_eq_false_iff_ne]; omega
  have B1 := Lib.hid (show 2 ^ (d + 1).toNat ≤ 2 * i + 2 by omega)
  have H := Lib.hid hp
  have H1 := Lib.hid (show i < 2 ^ d.toNat by omega)
  have b5 : i < 16777216 := by omega
  clear hp i1 hs a2
  go_enter Tryd.func20, Tryd.ntmps20
  go_wp2_with fail
  refine (parts_ok p d i _ h0 (by omega) i0 H1.out H.out).mono ?_
  rintro e w' ⟨rfl, rfl⟩
  go_wp2_with fail
  refine (make_wide _ _ _ (by omega) (by omega) (by omega) B1.out).mono ?_
  rintro e w' ⟨rfl, rfl⟩
  go_wp2_with fail
  go_ret2
  exact ⟨rfl, rfl⟩
theorem dvd_iff (d i K : Int) (j : Nat) (h0 : 0 ≤ d) (hk : d ≤ K) (h1 : K ≤ 24) (i0 : 0 ≤ i) (i1 : i < 2 ^ d.toNat) (hj : (j : Int) < K - Pos.Up d i K) : ¬ Pos.T d i K % 2 ^ (K - j).toNat = 0 := by
  intro h
  have t1 := Pos.T_pos d i K i0
  have t2 := Pos.T_le d i K h0 i1 hk
  have t3 := Pos.p2_le K h1
  have e := Int.emod_add_mul_ediv (Pos.T d i K) (2 ^ (K - j).toNat)
  rw [h, Int.zero_add] at e
  have q0 := Int.ediv_nonneg (show 0 ≤ Pos.T d i K by omega) (Int.le_of_lt (Pos.p2_pos (K - j).toNat))
  have hc : (K - j).toNat ≤ Lib.ctz 64 (Pos.T d i K).toNat := by
    refine Pos.dvd_ctz _ _ (by omega) (by omega) (Pos.T d i K / 2 ^ (K - j).toNat).toNat ?_
    have : ((Pos.T d i K).toNat : Int) = ((2 ^ (K - j).toNat * (Pos.T d i K / 2 ^ (K - j).toNat).toNat : Nat) : Int) := by
      rw [Int.toNat_of_nonneg (by omega), Int.natCast_mul, Int.toNat_of_nonneg q0]
      simpa using e.symm
    exact_mod_cast this
  unfold Pos.Up at hj
  omega
def HiRel (d i K : Int) (vk : Value) : Prop := ∃ j : Nat, (j : Int) ≤ d ∧ (j : Int) ≤ K - Pos.Up d i K ∧ vk = .int .i64 j
theorem Up_ge (d i k : Int) (h0 : 0 ≤ d) (hk : d ≤ k) (h1 : k ≤ 24) (i0 : 0 ≤ i) (i1 : i < 2 ^ d.toNat) : k - d ≤ Pos.Up d i k := by
  have t1 := Pos.T_pos d i k i0
  have t2 := Pos.T_le d i k h0 i1 hk
  have t3 := Pos.p2_le k h1
  have hc : (k - d).toNat ≤ Lib.ctz 64 (Pos.T d i k).toNat := by
    refine Pos.dvd_ctz _ _ (by omega) (by omega) (i + 1).toNat ?_
    have : ((Pos.T d i k).toNat : Int) = ((2 ^ (k - d).toNat * (i + 1).toNat : Nat) : Int) := by
      rw [Int.toNat_of_nonneg (by omega), Int.natCast_mul, Int.toNat_of_nonneg (by omega), Int.mul_comm]
      unfold Pos.T
      simp
    exact_mod_cast this
  unfold Pos.Up
  omega
set_option maxHeartbeats 1600000 in
theorem highest_ok (p d i K : Int) (w : World) (h0 : 0 ≤ d) (hk : d ≤ K) (h1 : K ≤ 24) (i0 : 0 ≤ i) (i1 : i < 2 ^ d.toNat) (hp : p = 2 ^ d.toNat + i) :
    Calls Tryd.prog 21 #[.int .u64 p, .int .i64 K] w fun e w' => e = .returned (.tuple #[.int .u64 (2 ^ (K - Pos.Up d i K).toNat + Pos.HI d i K), .int .i64 0]) ∧ w = w' := by
  have t1 := Pos.T_pos d i K i0
  have t2 := Pos.T_le d i K h0 i1 hk
  have t3 := Pos.p2_le K h1
  have u := Pos.Up_le d i K h0 hk
  have ug := Up_ge d i K h0 hk h1 i0 i1
  have hs := Pos.HI_spec d i K h0 hk h1 i0 i1
  have HS := Lib.hid hs
  have H := Lib.hid hp
  have H1 := Lib.hid i1
  clear hs hp i1
  go_enter Tryd.func21, Tryd.ntmps21
  go_wp2_with fail
  refine (trace_ok p d i K _ h0 hk h1 i0 H1.out H.out).mono ?_
  rintro e w' ⟨rfl, rfl⟩
  go_wp2_with fail
  refine (parts_ok p d i _ h0 (by omega) i0 H1.out H.out).mono ?_
  rintro e w' ⟨rfl, rfl⟩
  go_wp2_with fail
  go_loop [11] (HiRel d i K) (fun vk => (d - intOf vk).toNat)
  case atStart => exact ⟨0, by omega, by omega, rfl⟩
  case round =>
    obtain ⟨j, hj, hju, rfl⟩ := hrel
    by_cases hlt : (j : Int) < d
    · have a1 := Pos.p2_pos (K - j).toNat
      have a2 := Pos.p2_nat (K - j).toNat 24 (by omega)
      have n9 : ¬ (2 : Int) ^ (K - (j : Int)).toNat = 0 := by omega
      have z9 : ((2 : Int) ^ (K - (j : Int)).toNat == 0) = false := by simpa using n9
      have eN : (K - (j : Int)).toNat = K.toNat - j := by omega
      by_cases he : (j : Int) = K - Pos.Up d i K
      · have e1 : K - (j : Int) = Pos.Up d i K := by omega
        have D0 : Pos.T d i K % 2 ^ (K - (j : Int)).toNat = 0 := by rw [e1, ← HS.out.1, Int.mul_emod_left]
        have d0 : (Pos.T d i K % 2 ^ (K - (j : Int)).toNat == 0) = true := by rw [beq_iff_eq]; exact D0
        have eh : Pos.T d i K / 2 ^ (K - (j : Int)).toNat - 1 = Pos.HI d i K := by rw [e1]; rfl
        have s1 : 1 ≤ Pos.T d i K / 2 ^ (K - (j : Int)).toNat := by have := HS.out.2.1; omega
        have s2 : Pos.T d i K / 2 ^ (K - (j : Int)).toNat ≤ 16777216 := by have := Int.ediv_le_self (2 ^ (K - (j : Int)).toNat) (show 0 ≤ Pos.T d i K by omega); omega
        have EE := Lib.hid he
        rw [eN] at a1 a2 n9 z9 d0 eh s1 s2
        clear he e1 D0 eN
        go_wp2_with fail
        refine (make_ok j (Pos.HI d i K) _ (by omega) (by omega) HS.out.2.1 (by rw [EE.out]; exact HS.out.2.2)).mono ?_
        rintro e w' ⟨rfl, rfl⟩
        rw [EE.out]
        go_wp2_with fail
        go_ret2
        exact ⟨rfl, rfl⟩
      · have d0 : (Pos.T d i K % 2 ^ (K - (j : Int)).toNat == 0) = false := by rw [beq_eq_false_iff_ne]; exact dvd_iff d i K j h0 hk h1 i0 H1.out (by omega)
        rw [eN] at a1 a2 n9 z9 d0
        clear eN
        go_wp2_with fail
        go_round
        case rel => exact ⟨j + 1, by omega, by omega, by go_num⟩
        case measure => simp [intOf]; omega
    · have e1 : Pos.Up d i K = K - d := by omega
      have e2 : p = 2 ^ (K - Pos.Up d i K).toNat + Pos.HI d i K := by
        have hh := HS.out.1
        rw [e1] at hh
        have hT : Pos.T d i K = (i + 1) * 2 ^ (K - d).toNat := rfl
        rw [hT] at hh
        have := Int.eq_of_mul_eq_mul_right (show (2 : Int) ^ (K - d).toNat ≠ 0 by have := Pos.p2_pos (K - d).toNat; omega) hh
        rw [e1, show K - (K - d) = d by omega, H.out]
        omega
      have E2 := Lib.hid e2
      clear e1 e2
      go_wp2_with fail
      go_ret2
      exact ⟨by rw [← E2.out]; rfl, rfl⟩
theorem highest_out (p : Int) (k : Int) (w : World) (ht : ∀ w : World, Calls Tryd.prog 18 #[.int .u64 p, .int .i64 k] w fun e w' => e = .returned (.tuple #[.int .u64 0, .int .i64 2]) ∧ w = w') :
    Calls Tryd.prog 21 #[.int .u64 p, .int .i64 k] w fun e w' => e = .returned (.tuple #[.int .u64 0, .int .i64 2]) ∧ w = w' := by
  have H := Lib.hid ht
  clear ht
  go_enter Tryd.func21, Tryd.ntmps21
  go_wp2_with fail
  refine (H.out _).mono ?_
  rintro e w' ⟨rfl, rfl⟩
  go_wp2_with fail
  go_ret2
  exact ⟨rfl, rfl⟩
end RefP
end Go.Proofs.YtlbbnflchkejgaaDoor
