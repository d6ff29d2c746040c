/-
  Contracts of position.Make, Parts, Attack, Defend. Own work.
-/
import Derived.Test.YtlbbnflchkejgaaDoorErr
import Derived.Test.YtlbbnflchkejgaaDoorShelf
import Derived.Lib.Hide
import Derived.Outline
import Derived.Deep.QuietTactic
import Derived.BigQuiet
namespace Go.Proofs.YtlbbnflchkejgaaDoor
open Go.RowKit
namespace Pos

theorem p2_pos (n : Nat) : (0 : Int) < 2 ^ n := Int.pow_pos (by decide)
theorem p2_nat (d k : Nat) (h1 : d ≤ k) : (2 : Int) ^ d ≤ 2 ^ k := by
  have h2 : ((2 ^ d : Nat) : Int) ≤ ((2 ^ k : Nat) : Int) := by exact_mod_cast Nat.pow_le_pow_right (by decide) h1
  simpa using h2
theorem p2_le (d : Int) (h1 : d ≤ 24) : (2 : Int) ^ d.toNat ≤ 16777216 := by
  have := p2_nat d.toNat 24 (by omega)
  simpa using this
theorem p2_succ (d : Int) (h0 : 0 ≤ d) : (2 : Int) ^ (d + 1).toNat = 2 * 2 ^ d.toNat := by
  rw [show (d + 1).toNat = d.toNat + 1 by omega, Int.pow_succ]; omega
theorem len_of (p d i : Int) (h0 : 0 ≤ d) (h1 : d ≤ 24) (i0 : 0 ≤ i) (i1 : i < 2 ^ d.toNat) (hp : p = 2 ^ d.toNat + i) : ((Lib.bitLen p.toNat : Nat) : Int) = d + 1 := by
  subst hp
  have e : ((2 ^ d.toNat : Nat) : Int) = (2 : Int) ^ d.toNat := by norm_cast
  have l1 := p2_le d h1
  have h := Lib.bitLen_shift d.toNat ((2 : Int) ^ d.toNat + i).toNat (by omega) (by omega)
  have hq : ((2 : Int) ^ d.toNat + i).toNat / 2 ^ d.toNat = 1 := by
    have hi : ((2 : Int) ^ d.toNat + i).toNat = 2 ^ d.toNat + i.toNat := by omega
    have hl : i.toNat < 2 ^ d.toNat := by omega
    rw [hi, Nat.add_div_left _ (Nat.two_pow_pos _), Nat.div_eq_of_lt hl]
  rw [hq] at h
  have b1 : Lib.bitLen 1 = 1 := by decide +kernel
  rw [b1] at h
  omega

set_option maxHeartbeats 400000 in
theorem make_ok (d i : Int) (w : World) (h0 : 0 ≤ d) (h1 : d ≤ 24) (i0 : 0 ≤ i) (i1 : i < 2 ^ d.toNat) :
    Calls Tryd.prog 7 #[.int .i64 d, .int .u64 i] w fun e w' => e = .returned (.tuple #[.int .u64 (2 ^ d.toNat + i), .nilIface]) ∧ ∃ n, w' = w.drewN n := by
  have a1 := p2_pos d.toNat
  have a2 := p2_le d h1
  go_enter Tryd.func7, Tryd.ntmps7
  go_wp2
  go_ret2
  exact ⟨rfl, by first | exact ⟨0, rfl⟩ | exact ⟨_, rfl⟩⟩
def errV (n : Int) : Value := .iface 33 (.int .i64 n)
theorem make_deep (d i : Int) (w : World) (h : d < 0 ∨ 24 < d) :
    Calls Tryd.prog 7 #[.int .i64 d, .int .u64 i] w fun e w' => e = .returned (.tuple #[.int .u64 0, .iface 33 (.int .i64 2)]) ∧ ∃ n, w' = w.drewN n := by
  rcases h with h | h
  · go_enter Tryd.func7, Tryd.ntmps7
    go_wp2
    go_ret2
    exact ⟨rfl, by first | exact ⟨0, rfl⟩ | exact ⟨_, rfl⟩⟩
  · have h0 : ¬ d < 0 := by omega
    go_enter Tryd.func7, Tryd.ntmps7
    go_wp2
    go_ret2
    exact ⟨rfl, by first | exact ⟨0, rfl⟩ | exact ⟨_, rfl⟩⟩
theorem make_wide (d i : Int) (w : World) (h0 : 0 ≤ d) (h1 : d ≤ 24) (i1 : 2 ^ d.toNat ≤ i) :
    Calls Tryd.prog 7 #[.int .i64 d, .int .u64 i] w fun e w' => e = .returned (.tuple #[.int .u64 0, .iface 33 (.int .i64 2)]) ∧ ∃ n, w' = w.drewN n := by
  have a1 := p2_pos d.toNat
  have a2 := p2_le d h1
  go_enter Tryd.func7, Tryd.ntmps7
  go_wp2
  go_ret2
  exact ⟨rfl, by first | exact ⟨0, rfl⟩ | exact ⟨_, rfl⟩⟩

theorem parts_ok (p d i : Int) (w : World) (h0 : 0 ≤ d) (h1 : d ≤ 24) (i0 : 0 ≤ i) (i1 : i < 2 ^ d.toNat) (hp : p = 2 ^ d.toNat + i) :
    Calls Tryd.prog 8 #[.int .u64 p] w fun e w' => e = .returned (.tuple #[.int .i64 d, .int .u64 i, .nilIface]) ∧ ∃ n, w' = w.drewN n := by
  have a1 := p2_pos d.toNat
  have a2 := p2_le d h1
  have hl := len_of p d i h0 h1 i0 i1 hp
  have b1 : 0 < p := by omega
  have b2 : p < 33554432 := by omega
  have b3 : 2 ^ d.toNat ≤ p := by omega
  have b8 : (p == 0) = false := by rw [beq_eq_false_iff_ne]; omega
  have b4 : p - 2 ^ d.toNat = i := by omega
  have H4 := Lib.hid b4
  have HL := Lib.hid hl
  clear hl b4 hp i1 i0
  go_enter Tryd.func8, Tryd.ntmps8
  go_wp2_with (go_at_call 22; refine (Tryd.bits_Len64 _ _ (by omega) (by omega)).mono ?_; rintro e w' ⟨rfl, rfl⟩; rw [HL.out])
  go_quiet (fail)
  go_wp2
  go_ret3
  exact ⟨by rw [H4.out]; rfl, by first | exact ⟨0, rfl⟩ | exact ⟨_, rfl⟩⟩
theorem parts_bad (p : Int) (w : World) (h : p = 0 ∨ 33554432 ≤ p) :
    Calls Tryd.prog 8 #[.int .u64 p] w fun e w' => e = .returned (.tuple #[.int .i64 0, .int .u64 0, .iface 33 (.int .i64 2)]) ∧ ∃ n, w' = w.drewN n := by
  rcases h with h | h
  · subst h
    go_enter Tryd.func8, Tryd.ntmps8
    go_wp2
    go_ret3
    exact ⟨rfl, by first | exact ⟨0, rfl⟩ | exact ⟨_, rfl⟩⟩
  · have h0 : ¬ p = 0 := by omega
    go_enter Tryd.func8, Tryd.ntmps8
    go_wp2
    go_ret3
    exact ⟨rfl, by first | exact ⟨0, rfl⟩ | exact ⟨_, rfl⟩⟩

/-- Attack of a position that is not the deepest. -/
theorem attack_ok (p d i : Int) (w : World) (h0 : 0 ≤ d) (h1 : d ≤ 23) (i0 : 0 ≤ i) (i1 : i < 2 ^ d.toNat) (hp : p = 2 ^ d.toNat + i) :
    Calls Tryd.prog 10 #[.int .u64 p] w fun e w' => e = .returned (.tuple #[.int .u64 (2 * p), .nilIface]) ∧ ∃ n, w' = w.drewN n := by
  have a2 := p2_le d (by omega)
  have hs := p2_succ d h0
  have b1 : 2 * i < 2 ^ (d + 1).toNat := by omega
  have b2 : 2 ^ (d + 1).toNat + 2 * i = 2 * p := by omega
  have H1 := Lib.hid b1
  have H2 := Lib.hid b2
  have H3 := Lib.hid hp
  have H4 := Lib.hid i1
  have b5 : i < 16777216 := by omega
  clear b1 b2 hp hs i1 a2
  go_enter Tryd.func10, Tryd.ntmps10
  go_wp2_with fail
  refine (parts_ok p d i _ h0 (by omega) i0 H4.out H3.out).mono ?_
  rintro e w' ⟨rfl, q, rfl⟩
  go_wp2_with fail
  refine (make_ok _ _ _ (by omega) (by omega) (by omega) H1.out).mono ?_
  rintro e w' ⟨rfl, q, rfl⟩
  go_wp2_with fail
  go_ret2
  exact ⟨by rw [H2.out]; rfl, by first | exact ⟨0, rfl⟩ | exact ⟨_, rfl⟩⟩
/-- Defend of a position that is neither the deepest nor the last of its depth. -/
theorem defend_ok (p d i : Int) (w : World) (h0 : 0 ≤ d) (h1 : d ≤ 23) (i0 : 0 ≤ i) (i1 : i + 1 < 2 ^ d.toNat) (hp : p = 2 ^ d.toNat + i) :
    Calls Tryd.prog 11 #[.int .u64 p] w fun e w' => e = .returned (.tuple #[.int .u64 (2 * (p + 1)), .nilIface]) ∧ ∃ n, w' = w.drewN n := by
  have a2 := p2_le d (by omega)
  have hs := p2_succ d h0
  have b1 : 2 * i + 2 < 2 ^ (d + 1).toNat := by omega
  have b2 : 2 ^ (d + 1).toNat + (2 * i + 2) = 2 * (p + 1) := by omega
  have b6 : (i + 1 == 2 ^ d.toNat) = false := by rw [beq_eq_false_iff_ne]; omega
  have b7 : (d == 24) = false := by rw [beq_eq_false_iff_ne]; omega
  have H1 := Lib.hid b1
  have H2 := Lib.hid b2
  have H3 := Lib.hid hp
  have H4 := Lib.hid (show i < 2 ^ d.toNat by omega)
  have b5 : i < 16777216 := by omega
  have a1 := p2_pos d.toNat
  clear b1 b2 hp hs i1
  go_enter Tryd.func11, Tryd.ntmps11
  go_wp2_with fail
  refine (parts_ok p d i _ h0 (by omega) i0 H4.out H3.out).mono ?_
  rintro e w' ⟨rfl, q, rfl⟩
  go_wp2_with fail
  refine (make_ok _ _ _ (by omega) (by omega) (by omega) H1.out).mono ?_
  rintro e w' ⟨rfl, q, rfl⟩
  go_wp2_with fail
  go_ret2
  exact ⟨by rw [H2.out]; rfl, by first | exact ⟨0, rfl⟩ | exact ⟨_, rfl⟩⟩
/-- Defend of the last of its depth. -/
theorem defend_last (p d i : Int) (w : World) (h0 : 0 ≤ d) (h1 : d ≤ 23) (i0 : 0 ≤ i) (i1 : i + 1 = 2 ^ d.toNat) (hp : p = 2 ^ d.toNat + i) :
    Calls Tryd.prog 11 #[.int .u64 p] w fun e w' => e = .returned (.tuple #[.int .u64 0, .iface 33 (.int .i64 45)]) ∧ ∃ n, w' = w.drewN n := by
  have a2 := p2_le d (by omega)
  have b6 : (i + 1 == 2 ^ d.toNat) = true := by rw [beq_iff_eq]; omega
  have b7 : (d == 24) = false := by rw [beq_eq_false_iff_ne]; omega
  have H3 := Lib.hid hp
  have H4 := Lib.hid (show i < 2 ^ d.toNat by omega)
  have b5 : i < 16777216 := by omega
  have a1 := p2_pos d.toNat
  clear hp i1
  go_enter Tryd.func11, Tryd.ntmps11
  go_wp2_with fail
  refine (parts_ok p d i _ h0 (by omega) i0 H4.out H3.out).mono ?_
  rintro e w' ⟨rfl, q, rfl⟩
  go_wp2_with fail
  go_ret2
  exact ⟨rfl, by first | exact ⟨0, rfl⟩ | exact ⟨_, rfl⟩⟩
end Pos

theorem fixed_true (w : World) : Calls Tryd.prog 13 #[] w fun e w' => e = .returned (.bool true) ∧ ∃ n, w' = w.drewN n := by
  go_enter Tryd.func13, Tryd.ntmps13
  go_wp2_with fail
  refine (Pos.make_ok 2 1 _ (by decide) (by decide) (by decide) (by decide)).mono ?_
  rintro e w' ⟨rfl, q, rfl⟩
  go_wp2_with fail
  refine (Pos.attack_ok 5 2 1 _ (by decide) (by decide) (by decide) (by decide) (by decide)).mono ?_
  rintro e w' ⟨rfl, q, rfl⟩
  go_wp2_with fail
  refine (Pos.defend_last 7 2 3 _ (by decide) (by decide) (by decide) (by decide) (by decide)).mono ?_
  rintro e w' ⟨rfl, q, rfl⟩
  go_wp2_with fail
  refine (Err.is_num _ _ _).mono ?_
  rintro e w' ⟨rfl, rfl⟩
  go_wp2_with fail
  go_ret
  exact ⟨rfl, by first | exact ⟨0, rfl⟩ | exact ⟨_, rfl⟩⟩
end Go.Proofs.YtlbbnflchkejgaaDoor
