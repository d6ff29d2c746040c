/-
  WordWide. Own work.
-/
import Derived.Test.YtebfecnpkifgeaaDoorWnum
namespace Go.Proofs.YtebfecnpkifgeaaDoor
open Go.RowKit
set_option linter.unusedVariables false
namespace W1
theorem wide_nat (a b : Nat) (w : World) (ha : a < 18446744073709551616) (hb : b < 18446744073709551616) :
    Calls Tryd.prog 14 #[.int .u64 a, .int .u64 b] w fun e w' => e = .returned (.tuple #[.int .u64 ((a * b / 18446744073709551616 : Nat) : Int), .int .u64 ((a * b % 18446744073709551616 : Nat) : Int)]) ∧ w = w' := by
  refine (wide_any a b w ⟨by omega, by omega⟩ ⟨by omega, by omega⟩).mono ?_
  rintro e w' ⟨rfl, rfl⟩
  exact ⟨by simp, rfl⟩
/-- Both answers to a quotient of two words by one. -/
theorem split_both (h l n : Nat) (hl : l < 18446744073709551616) (hn : n < 18446744073709551616) : ∃ (q r : Nat) (e : Int),
    (∀ w, Calls Tryd.prog 16 #[.int .u64 h, .int .u64 l, .int .u64 n] w fun ev w' => ev = .returned (.tuple #[.int .u64 q, .int .u64 r, errV e]) ∧ ∃ k, w' = w.drewN k) ∧
    (∀ w, Calls Tryd.prog 17 #[.int .u64 h, .int .u64 l, .int .u64 n] w fun ev w' => ev = .returned (.tuple #[.int .u64 q, .int .u64 r, .int .i64 e]) ∧ w = w') := by
  rcases Nat.lt_or_ge h n with hc | hc
  · exact ⟨_, _, 0, fun w => split_ok h l n w hl hc hn, fun w => refSplit_ok h l n w hl hc hn⟩
  · exact ⟨0, 0, 2, fun w => (split_bad h l n w hc).mono fun e w' ⟨he, hw⟩ => ⟨he, 0, hw.symm⟩, fun w => refSplit_bad h l n w hc⟩
set_option maxHeartbeats 1000000 in
theorem wide_walk (a b n : Nat) (w : World) (ha : a < 18446744073709551616) (hb : b < 18446744073709551616) (hn : n < 18446744073709551616)
    (hg : w.cell? ⟨0, 0, none⟩ = some (.iface 82 (.agg #[.pointer (some ⟨6, 30, none⟩)]))) :
    Calls Tryd.prog 5 #[.int .u64 a, .int .u64 b, .int .u64 n] w fun e w' => e = .returned (.bool true) ∧ Below w.heap.size w w' := by
  have HG := Lib.hid hg
  have HW := Lib.hid (wide_nat a b w ha hb)
  have HR := Lib.hid (refWide_any a b w ha hb)
  obtain ⟨q, r, e, hs1, hs2⟩ := split_both a b n hb hn
  have HS1 := Lib.hid hs1
  have HS2 := Lib.hid hs2
  have hHb : a * b / 18446744073709551616 < 18446744073709551616 := Nat.div_lt_of_lt_mul (Nat.mul_lt_mul'' ha hb)
  have hLb : a * b % 18446744073709551616 < 18446744073709551616 := Nat.mod_lt _ (by decide)
  have hHL := Nat.div_add_mod' (a * b) 18446744073709551616
  obtain ⟨H, hH⟩ : ∃ H, a * b / 18446744073709551616 = H := ⟨_, rfl⟩
  obtain ⟨Lw, hLw⟩ : ∃ H, a * b % 18446744073709551616 = H := ⟨_, rfl⟩
  rw [hH, hLw] at HW HR hHL
  rw [hH] at hHb
  rw [hLw] at hLb
  clear hg hs1 hs2
  by_cases ha0 : a = 0
  · subst ha0
    have h0 : H = 0 := by rw [← hH, Nat.zero_mul]
    have l0 : Lw = 0 := by rw [← hLw, Nat.zero_mul]
    subst h0 l0
    simp only [Int.natCast_zero] at HW HR HS1 HS2
    show Calls Tryd.prog 5 #[.int .u64 0, .int .u64 b, .int .u64 n] w _
    clear ha hb hn hHb hLb hHL hH hLw
    go_enter Tryd.func5, Tryd.ntmps5
    go_wp2_with (first
      | (go_at_call 14; (with_reducible refine HW.out.mono ?_); rintro ev _ ⟨rfl, rfl⟩)
      | (go_at_call 15; (with_reducible refine HR.out.mono ?_); rintro ev _ ⟨rfl, rfl⟩)
      | (go_at_call 16; (with_reducible refine (HS1.out _).mono ?_); rintro ev w1 ⟨rfl, k, rfl⟩)
      | (go_at_call 17; (with_reducible refine (HS2.out _).mono ?_); rintro ev _ ⟨rfl, rfl⟩)
      | (go_at_call 8; refine (fixed_true _).mono ?_; rintro ev _ ⟨rfl, rfl⟩)
      | (go_at_call 13; refine (number_any e (w.drewN k) HG.out).mono ?_; rintro ev w2 ⟨rfl, hb2⟩; have HB := Lib.hid hb2; clear hb2))
    go_ret
    exact ⟨rfl, bl (below_drewN (Below.refl _ _) k) HB.out⟩
  · have hHa : H < a := by
      rw [← hH]
      refine Nat.div_lt_of_lt_mul ?_
      rw [Nat.mul_comm a b]
      exact Nat.mul_lt_mul_of_pos_right hb (Nat.pos_of_ne_zero ha0)
    have hs3 := fun w => split_ok H Lw a w hLb hHa ha
    have hq3 : (H * 18446744073709551616 + Lw) / a = b := by rw [hHL]; exact Nat.mul_div_cancel_left b (by omega)
    have hr3 : (H * 18446744073709551616 + Lw) % a = 0 := by rw [hHL]; exact Nat.mul_mod_right a b
    rw [hq3, hr3] at hs3
    have HS3 := Lib.hid hs3
    have haz : ((a : Int) == 0) = false := by simp; omega
    have hlt : decide (H < a) = true := by simpa using hHa
    clear ha hb hn hHb hLb hHL hH hLw hHa hs3 hq3 hr3 ha0
    go_enter Tryd.func5, Tryd.ntmps5
    go_wp2_with (first
      | (go_at_call 14; (with_reducible refine HW.out.mono ?_); rintro ev _ ⟨rfl, rfl⟩)
      | (go_at_call 15; (with_reducible refine HR.out.mono ?_); rintro ev _ ⟨rfl, rfl⟩)
      | (go_at_call 16; (with_reducible refine (HS1.out _).mono ?_); rintro ev w1 ⟨rfl, k, rfl⟩)
      | (go_at_call 16; (with_reducible refine (HS3.out _).mono ?_); rintro ev w3 ⟨rfl, k3, rfl⟩)
      | (go_at_call 17; (with_reducible refine (HS2.out _).mono ?_); rintro ev _ ⟨rfl, rfl⟩)
      | (go_at_call 8; refine (fixed_true _).mono ?_; rintro ev _ ⟨rfl, rfl⟩)
      | (go_at_call 13; refine (number_any e (w.drewN k) HG.out).mono ?_; rintro ev w2 ⟨rfl, hb2⟩; have HB := Lib.hid hb2; clear hb2))
    go_ret
    exact ⟨rfl, below_drewN (bl (below_drewN (Below.refl _ _) k) HB.out) k3⟩
end W1
theorem wordWide_walk {w : World} (a0 a1 a2 : Int) (w0 : (Lit.int .u64 a0).wf = true) (w1 : (Lit.int .u64 a1).wf = true) (w2 : (Lit.int .u64 a2).wf = true)
    (hg : w.cell? ⟨0, 0, none⟩ = some (.iface 82 (.agg #[.pointer (some ⟨6, 30, none⟩)]))) :
    Calls Tryd.prog 5 #[.int .u64 a0, .int .u64 a1, .int .u64 a2] w fun e w' => e = .returned (.bool true) ∧ Below w.heap.size w w' := by
  have b0 := bounds_u64 w0
  have b1 := bounds_u64 w1
  have b2 := bounds_u64 w2
  obtain ⟨a, rfl⟩ : ∃ a : Nat, a0 = a := ⟨a0.toNat, by omega⟩
  obtain ⟨b, rfl⟩ : ∃ a : Nat, a1 = a := ⟨a1.toNat, by omega⟩
  obtain ⟨n, rfl⟩ : ∃ a : Nat, a2 = a := ⟨a2.toNat, by omega⟩
  exact W1.wide_walk a b n w (by omega) (by omega) (by omega) hg
end Go.Proofs.YtebfecnpkifgeaaDoor
