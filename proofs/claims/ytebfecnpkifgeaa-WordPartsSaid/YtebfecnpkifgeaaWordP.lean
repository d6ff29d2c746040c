/-
  The walk of WordParts. Own work.
-/
import Derived.Test.YtebfecnpkifgeaaWordF
import Derived.Test.YtebfecnpkifgeaaWord2
import Derived.Test.YtebfecnpkifgeaaWordM
namespace Go.Proofs.Ytebfecnpkifgeaa
open Go.RowKit
set_option linter.unusedVariables false
namespace U
/-- The highest i bytes of a, the others nought. -/
def hi (a i : Int) : Int := a - a % 2 ^ (64 - 8 * i).toNat
/-- What holds at a round's head. -/
def BRel (a : Int) (vs vi : Value) : Prop := ∃ i : Int, 0 ≤ i ∧ i ≤ 8 ∧ vi = .int .u64 i ∧ vs = .int .u64 (hi a i)
theorem hi_zero (a : Int) (ha : Ok a) : hi a 0 = 0 := by
  unfold Ok at ha
  unfold hi
  rw [show (2 : Int) ^ (64 - 8 * (0 : Int)).toNat = 18446744073709551616 by decide]
  omega
theorem hi_all (a : Int) : hi a 8 = a := by
  unfold hi
  rw [show (2 : Int) ^ (64 - 8 * (8 : Int)).toNat = 1 by decide]
  omega
theorem hi_ok (a i : Int) (ha : Ok a) : Ok (hi a i) := by
  unfold Ok hi at *
  have h1 := Int.emod_nonneg a (show (2 : Int) ^ (64 - 8 * i).toNat ≠ 0 by have := p2 (64 - 8 * i).toNat; omega)
  have h2 := Int.ediv_nonneg ha.1 (Int.le_of_lt (p2 (64 - 8 * i).toNat))
  have h3 := Int.emod_add_mul_ediv a (2 ^ (64 - 8 * i).toNat)
  have h4 := Int.mul_nonneg (Int.le_of_lt (p2 (64 - 8 * i).toNat)) h2
  omega
theorem hi_step (a i : Int) (ha : Ok a) (h0 : 0 ≤ i) (h1 : i < 8) : add (hi a i) (shl (56 - 8 * i) (byte i a)) = hi a (i + 1) := by
  unfold Ok at ha
  have hc : i = 0 ∨ i = 1 ∨ i = 2 ∨ i = 3 ∨ i = 4 ∨ i = 5 ∨ i = 6 ∨ i = 7 := by omega
  unfold add hi shl byte
  rcases hc with rfl | rfl | rfl | rfl | rfl | rfl | rfl | rfl
  · simp only [show (2 : Int) ^ (64 - 8 * (0 : Int)).toNat = 18446744073709551616 by decide, show (2 : Int) ^ (64 - 8 * ((0 : Int) + 1)).toNat = 72057594037927936 by decide, show (2 : Int) ^ (56 - 8 * (0 : Int)).toNat = 72057594037927936 by decide, show (2 : Int) ^ min (56 - 8 * (0 : Int)).toNat 64 = 72057594037927936 by decide]; rw [if_neg (by decide)]; omega
  · simp only [show (2 : Int) ^ (64 - 8 * (1 : Int)).toNat = 72057594037927936 by decide, show (2 : Int) ^ (64 - 8 * ((1 : Int) + 1)).toNat = 281474976710656 by decide, show (2 : Int) ^ (56 - 8 * (1 : Int)).toNat = 281474976710656 by decide, show (2 : Int) ^ min (56 - 8 * (1 : Int)).toNat 64 = 281474976710656 by decide]; rw [if_neg (by decide)]; omega
  · simp only [show (2 : Int) ^ (64 - 8 * (2 : Int)).toNat = 281474976710656 by decide, show (2 : Int) ^ (64 - 8 * ((2 : Int) + 1)).toNat = 1099511627776 by decide, show (2 : Int) ^ (56 - 8 * (2 : Int)).toNat = 1099511627776 by decide, show (2 : Int) ^ min (56 - 8 * (2 : Int)).toNat 64 = 1099511627776 by decide]; rw [if_neg (by decide)]; omega
  · simp only [show (2 : Int) ^ (64 - 8 * (3 : Int)).toNat = 1099511627776 by decide, show (2 : Int) ^ (64 - 8 * ((3 : Int) + 1)).toNat = 4294967296 by decide, show (2 : Int) ^ (56 - 8 * (3 : Int)).toNat = 4294967296 by decide, show (2 : Int) ^ min (56 - 8 * (3 : Int)).toNat 64 = 4294967296 by decide]; rw [if_neg (by decide)]; omega
  · simp only [show (2 : Int) ^ (64 - 8 * (4 : Int)).toNat = 4294967296 by decide, show (2 : Int) ^ (64 - 8 * ((4 : Int) + 1)).toNat = 16777216 by decide, show (2 : Int) ^ (56 - 8 * (4 : Int)).toNat = 16777216 by decide, show (2 : Int) ^ min (56 - 8 * (4 : Int)).toNat 64 = 16777216 by decide]; rw [if_neg (by decide)]; omega
  · simp only [show (2 : Int) ^ (64 - 8 * (5 : Int)).toNat = 16777216 by decide, show (2 : Int) ^ (64 - 8 * ((5 : Int) + 1)).toNat = 65536 by decide, show (2 : Int) ^ (56 - 8 * (5 : Int)).toNat = 65536 by decide, show (2 : Int) ^ min (56 - 8 * (5 : Int)).toNat 64 = 65536 by decide]; rw [if_neg (by decide)]; omega
  · simp only [show (2 : Int) ^ (64 - 8 * (6 : Int)).toNat = 65536 by decide, show (2 : Int) ^ (64 - 8 * ((6 : Int) + 1)).toNat = 256 by decide, show (2 : Int) ^ (56 - 8 * (6 : Int)).toNat = 256 by decide, show (2 : Int) ^ min (56 - 8 * (6 : Int)).toNat 64 = 256 by decide]; rw [if_neg (by decide)]; omega
  · simp only [show (2 : Int) ^ (64 - 8 * (7 : Int)).toNat = 256 by decide, show (2 : Int) ^ (64 - 8 * ((7 : Int) + 1)).toNat = 1 by decide, show (2 : Int) ^ (56 - 8 * (7 : Int)).toNat = 1 by decide, show (2 : Int) ^ min (56 - 8 * (7 : Int)).toNat 64 = 1 by decide]; rw [if_neg (by decide)]; omega
theorem sext_far (a i : Int) (h : 0 ≤ i) : sext (i + 7) a = a := by unfold sext; rw [if_pos (by omega)]
theorem byte_far (a i : Int) (h : 0 ≤ i) : byte (i + 8) a = 0 := by unfold byte; rw [if_pos (by omega)]
end U
set_option maxRecDepth 100000 in
set_option maxHeartbeats 8000000 in
theorem parts_zero (a b : Int) (ha : U.Ok a) (hb : U.Ok b) (hz : b = 0) (w : World) :
    Calls Try.prog 7 #[.int .u64 a, .int .u64 b] w fun e w' => e = .returned (.bool true) ∧ Below w.heap.size w w' := by
  subst hz
  have hall := U.hi_all a
  have Hall := Lib.hid hall
  clear hall
  go_enter Try.func7, Try.ntmps7
  go_wp2_with fail
  go_loop [5, 44] (fun vs vi => U.BRel a vs vi) (fun _ vi => (8 - intOf vi).toNat)
  case atStart => exact ⟨0, by decide, by decide, rfl, by rw [U.hi_zero a ha]⟩
  case round =>
    obtain ⟨i, i0, i1, rfl, rfl⟩ := hrel
    by_cases hlt : i < 8
    · have hio : U.Ok i := by unfold U.Ok; omega
      have hi7 : U.Ok (i + 7) := by unfold U.Ok; omega
      have hi8 : U.Ok (i + 8) := by unfold U.Ok; omega
      have hup : U.Ok (56 - 8 * i) := by unfold U.Ok; omega
      have w0 : (U.sext i (U.sext i a) != U.sext i a) = false := by simpa using U.sext_two a i ha i0
      have hst := Lib.hid (U.hi_step a i ha i0 hlt)
      go_wp2_with fail
      refine (at_byte i a _ hio ha).mono ?_
      rintro e w' ⟨rfl, rfl⟩
      go_wp2_with fail
      refine (at_shl (56 - 8 * i) (U.byte i a) _ hup (U.byte_ok hio ha)).mono ?_
      rintro e w' ⟨rfl, rfl⟩
      go_wp2_with fail
      refine (at_add (U.hi a i) (U.shl (56 - 8 * i) (U.byte i a)) _ (U.hi_ok a i ha) (U.shl_ok hup (U.byte_ok hio ha))).mono ?_
      rintro e w' ⟨rfl, rfl⟩
      rw [hst.out]
      go_wp2_with fail
      refine (at_sext i a _ hio ha).mono ?_
      rintro e w' ⟨rfl, rfl⟩
      go_wp2_with fail
      refine (at_sext i (U.sext i a) _ hio (U.sext_ok hio ha)).mono ?_
      rintro e w' ⟨rfl, rfl⟩
      go_wp2_with fail
      refine (at_sext (i + 7) a _ hi7 ha).mono ?_
      rintro e w' ⟨rfl, rfl⟩
      rw [U.sext_far a i i0]
      go_wp2_with fail
      refine (at_byte (i + 8) a _ hi8 ha).mono ?_
      rintro e w' ⟨rfl, rfl⟩
      rw [U.byte_far a i i0]
      go_wp2_with fail
      go_round
      case rel => exact ⟨i + 1, by omega, by omega, rfl, rfl⟩
      case measure => simp [intOf]; omega
    · have h8 : i = 8 := by omega
      subst h8
      rw [Hall.out]
      go_wp2_with fail
      refine (fixed_true _).mono ?_
      rintro e w' ⟨rfl, rfl⟩
      go_wp2_with fail
      go_ret
      exact ⟨rfl, Below.refl _ _⟩
set_option maxRecDepth 100000 in
set_option maxHeartbeats 8000000 in
theorem parts_in (a b : Int) (ha : U.Ok a) (hb : U.Ok b) (hz : ¬ b = 0) (w : World) :
    Calls Try.prog 7 #[.int .u64 a, .int .u64 b] w fun e w' => e = .returned (.bool true) ∧ Below w.heap.size w w' := by
  have hzb : (b == 0) = false := by simpa using hz
  have hzn : (b != 0) = true := by simpa using hz
  have v0 : (U.add (U.mul (U.div a b) b) (U.mod a b) != a) = false := by simpa using U.div_back a b ha hz
  have v1 : (U.add (U.mul (U.sdiv a b) b) (U.smod a b) != a) = false := by simpa using U.sdiv_back a b ha hz
  have v2 : (U.lt (U.mod a b) b != 1) = false := by simpa using U.mod_lt a b hb hz
  have hall := U.hi_all a
  have Hall := Lib.hid hall
  clear hall
  go_enter Try.func7, Try.ntmps7
  go_wp2_with fail
  refine (at_div a b _ ha hb).mono ?_
  rintro e w' ⟨rfl, rfl⟩
  go_wp2_with fail
  refine (at_mul (U.div a b) b _ (U.div_ok ha hb) hb).mono ?_
  rintro e w' ⟨rfl, rfl⟩
  go_wp2_with fail
  refine (at_mod a b _ ha hb).mono ?_
  rintro e w' ⟨rfl, rfl⟩
  go_wp2_with fail
  refine (at_add (U.mul (U.div a b) b) (U.mod a b) _ (U.mul_ok _ _) (U.mod_ok ha hb)).mono ?_
  rintro e w' ⟨rfl, rfl⟩
  go_wp2_with fail
  refine (at_sdiv a b _ ha hb).mono ?_
  rintro e w' ⟨rfl, rfl⟩
  go_wp2_with fail
  refine (at_mul (U.sdiv a b) b _ (U.sdiv_ok ha hb) hb).mono ?_
  rintro e w' ⟨rfl, rfl⟩
  go_wp2_with fail
  refine (at_smod a b _ ha hb).mono ?_
  rintro e w' ⟨rfl, rfl⟩
  go_wp2_with fail
  refine (at_add (U.mul (U.sdiv a b) b) (U.smod a b) _ (U.mul_ok _ _) (U.smod_ok ha hb)).mono ?_
  rintro e w' ⟨rfl, rfl⟩
  go_wp2_with fail
  refine (at_mod a b _ ha hb).mono ?_
  rintro e w' ⟨rfl, rfl⟩
  go_wp2_with fail
  refine (at_lt (U.mod a b) b _ (U.mod_ok ha hb) hb).mono ?_
  rintro e w' ⟨rfl, rfl⟩
  go_wp2_with fail
  go_loop [5, 44] (fun vs vi => U.BRel a vs vi) (fun _ vi => (8 - intOf vi).toNat)
  case atStart => exact ⟨0, by decide, by decide, rfl, by rw [U.hi_zero a ha]⟩
  case round =>
    obtain ⟨i, i0, i1, rfl, rfl⟩ := hrel
    by_cases hlt : i < 8
    · have hio : U.Ok i := by unfold U.Ok; omega
      have hi7 : U.Ok (i + 7) := by unfold U.Ok; omega
      have hi8 : U.Ok (i + 8) := by unfold U.Ok; omega
      have hup : U.Ok (56 - 8 * i) := by unfold U.Ok; omega
      have w0 : (U.sext i (U.sext i a) != U.sext i a) = false := by simpa using U.sext_two a i ha i0
      have hst := Lib.hid (U.hi_step a i ha i0 hlt)
      go_wp2_with fail
      refine (at_byte i a _ hio ha).mono ?_
      rintro e w' ⟨rfl, rfl⟩
      go_wp2_with fail
      refine (at_shl (56 - 8 * i) (U.byte i a) _ hup (U.byte_ok hio ha)).mono ?_
      rintro e w' ⟨rfl, rfl⟩
      go_wp2_with fail
      refine (at_add (U.hi a i) (U.shl (56 - 8 * i) (U.byte i a)) _ (U.hi_ok a i ha) (U.shl_ok hup (U.byte_ok hio ha))).mono ?_
      rintro e w' ⟨rfl, rfl⟩
      rw [hst.out]
      go_wp2_with fail
      refine (at_sext i a _ hio ha).mono ?_
      rintro e w' ⟨rfl, rfl⟩
      go_wp2_with fail
      refine (at_sext i (U.sext i a) _ hio (U.sext_ok hio ha)).mono ?_
      rintro e w' ⟨rfl, rfl⟩
      go_wp2_with fail
      refine (at_sext (i + 7) a _ hi7 ha).mono ?_
      rintro e w' ⟨rfl, rfl⟩
      rw [U.sext_far a i i0]
      go_wp2_with fail
      refine (at_byte (i + 8) a _ hi8 ha).mono ?_
      rintro e w' ⟨rfl, rfl⟩
      rw [U.byte_far a i i0]
      go_wp2_with fail
      go_round
      case rel => exact ⟨i + 1, by omega, by omega, rfl, rfl⟩
      case measure => simp [intOf]; omega
    · have h8 : i = 8 := by omega
      subst h8
      rw [Hall.out]
      go_wp2_with fail
      refine (fixed_true _).mono ?_
      rintro e w' ⟨rfl, rfl⟩
      go_wp2_with fail
      go_ret
      exact ⟨rfl, Below.refl _ _⟩
theorem wordParts_walk (a b : Int) (wa : (Lit.int .u64 a).wf = true) (wb : (Lit.int .u64 b).wf = true) (w : World) :
    Calls Try.prog 7 #[.int .u64 a, .int .u64 b] w fun e w' => e = .returned (.bool true) ∧ Below w.heap.size w w' := by
  by_cases h : b = 0
  · exact parts_zero a b (bounds_u64 wa) (bounds_u64 wb) h w
  · exact parts_in a b (bounds_u64 wa) (bounds_u64 wb) h w
end Go.Proofs.Ytebfecnpkifgeaa
