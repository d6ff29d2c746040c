/-
  The walk of PositionMoves. Own work.
-/
import Derived.Test.YtlbbnflchkejgaaDoorTz
import Derived.OpenShut
import Derived.LoopTactic
namespace Go.Proofs.YtlbbnflchkejgaaDoor
open Go.RowKit
set_option linter.unusedVariables false
namespace Pos
/-- What holds at a round's head. -/
def MRel (w wr : World) (len : Nat) (D : Int) (vp vl vh vi : Value) : Prop :=
  ∃ (k : Nat) (x lo hi : Int), vi = .int .i64 k ∧ vp = .int .u64 (2 ^ k + x) ∧ vl = .int .u64 lo ∧ vh = .int .u64 hi ∧ k ≤ len ∧ (k : Int) ≤ D ∧ 0 ≤ x ∧ x < 2 ^ k ∧ 0 ≤ lo ∧ lo ≤ T k x D - 2 ^ (D - k).toNat ∧
    (x + 1 = 2 ^ k ∨ T k x D - 1 + 2 ^ (D - k).toNat ≤ hi) ∧ hi ≤ 16777216 ∧ ∃ n, wr = w.drewN n
theorem T_att (k x D : Int) (h : k + 1 ≤ D) : T (k + 1) (2 * x) D = T k x D - 2 ^ (D - (k + 1)).toNat := by
  unfold T
  rw [show (D - k).toNat = (D - (k + 1)).toNat + 1 by omega, Int.pow_succ]
  generalize (2 : Int) ^ (D - (k + 1)).toNat = y
  rw [Int.add_mul, Int.add_mul, Int.mul_assoc, Int.mul_comm y 2, ← Int.mul_assoc x 2 y, Int.mul_comm x 2, Int.mul_assoc]
  omega
theorem T_def (k x D : Int) (h : k + 1 ≤ D) : T (k + 1) (2 * x + 2) D = T k x D + 2 ^ (D - (k + 1)).toNat := by
  have h1 := T_att k (x + 1) D h
  have h2 : T k (x + 1) D = T k x D + 2 ^ (D - k).toNat := by unfold T; rw [Int.add_mul (x + 1) 1, Int.one_mul]
  rw [show 2 * (x + 1) = 2 * x + 2 by omega, h2, show (D - k).toNat = (D - (k + 1)).toNat + 1 by omega, Int.pow_succ] at h1
  omega
end Pos
set_option maxRecDepth 100000 in
set_option maxHeartbeats 8000000 in
theorem moves_in (a0 D : Int) (b off len cap : Nat) (eD : 1 + wrap64 ((IntKind.u64.wrap a0).tmod 24) = D) (d0 : 1 ≤ D) (d1 : D ≤ 24)
    (hlen : (len : Int) ≤ 9223372036854775807) (w : World) (hcell : ∀ i, i < len → ∃ z, w.cell? ⟨b, off + i, none⟩ = some (.bool z)) (hT : TabAt 0 Lib.deBruijn64tab w) :
    Calls Tryd.prog 6 #[.slice (some ⟨b, off, none⟩) len cap, .int .i64 a0] w fun e w' => e = .returned (.bool true) ∧ Below w.heap.size w w' := by
  have HT := Lib.hid hT
  have HC := Lib.hid hcell
  clear hT hcell
  have p0 := Pos.p2_pos D.toNat
  have p1 := Pos.p2_le D (by omega)
  go_enter Tryd.func6, Tryd.ntmps6
  go_wp2_with fail
  refine (fixed_true _).mono ?_
  rintro e w' ⟨rfl, q, rfl⟩
  go_wp2_with fail
  go_loopw [5, 6, 7, 37] (fun vp vl vh vi wr => Pos.MRel w wr len D vp vl vh vi) (fun _ _ _ vi _ => len - (intOf vi).toNat)
  case atStart =>
    refine ⟨0, 0, 0, 2 ^ D.toNat - 1, rfl, rfl, rfl, rfl, Nat.zero_le _, by omega, by decide, by decide, by decide, ?_, Or.inl (by decide), by omega, _, rfl⟩
    unfold Pos.T
    simp
  case round =>
    obtain ⟨k, x, lo, hi, rfl, rfl, rfl, rfl, hk, hkD, x0, hx, lo0, hlo, hhi, hi1, n, rfl⟩ := hrel
    have X := Lib.hid hx
    have pk := Pos.p2_pos k
    have pk2 := Pos.p2_nat k 24 (by omega)
    have tp := Pos.T_pos k x D x0
    have tl := Pos.T_le k x D (by omega) (by simpa using hx) hkD
    by_cases hlt : k < len
    · obtain ⟨z, hz⟩ := HC.out k hlt
      have hz' : (w.drewN n).cell? ⟨b, off + k, none⟩ = some (.bool z) := hz
      by_cases hkd : D ≤ k
      · clear hx hlo hhi
        go_wp2_with fail
        refine (Pos.trace_ok (2 ^ k + x) k x D _ (by omega) hkD d1 x0 (by simpa using X.out) (by simp)).mono ?_
        rintro e w' ⟨rfl, q, rfl⟩
        go_wp2_with fail
        refine (Pos.highest_ok (2 ^ k + x) k x D _ (by omega) hkD d1 x0 (by simpa using X.out) (by simp) (Pos.tab_drew HT.out)).mono ?_
        rintro e w' ⟨rfl, q, rfl⟩
        obtain ⟨O, hO⟩ : ∃ O, 2 ^ (D - Pos.Up k x D).toNat + Pos.HI k x D = O := ⟨_, rfl⟩
        have HO := Lib.hid hO
        have u := Pos.Up_le k x D (by omega) hkD
        have hs := Lib.hid (Pos.HI_spec k x D (by omega) hkD d1 x0 (by simpa using X.out))
        have ht := Lib.hid (Pos.T_top k x D (by omega) hkD d1 x0 (by simpa using X.out))
        have hle : O ≤ 2 ^ k + x := by have := Pos.top_le k x D (by omega) hkD d1 x0 (by simpa using X.out); simp at this; omega
        rw [hO]
        clear hO
        go_wp2_with fail
        refine (Pos.trace_ok O (D - Pos.Up k x D) (Pos.HI k x D) D _ (by omega) (by omega) d1 hs.out.2.1 hs.out.2.2 HO.out.symm).mono ?_
        rintro e w' ⟨rfl, q, rfl⟩
        rw [ht.out]
        go_wp2_with fail
        go_ret
        exact ⟨rfl, below_drewN (Below.refl _ _) _⟩
      · have hk1 : (k : Int) + 1 ≤ D := by omega
        have hp := Pos.p2_pos (D - ((k : Int) + 1)).toNat
        have h2h : (2 : Int) ^ (D - (k : Int)).toNat = 2 * 2 ^ (D - ((k : Int) + 1)).toNat := by rw [show (D - (k : Int)).toNat = (D - ((k : Int) + 1)).toNat + 1 by omega, Int.pow_succ]; omega
        have TA := Lib.hid (Pos.T_att k x D hk1)
        have TD := Lib.hid (Pos.T_def k x D hk1)
        have hx2 : x ≤ 16777216 := by omega
        have e2 : (2 : Int) ^ ((k : Int) + 1).toNat = 2 * 2 ^ k := by rw [show ((k : Int) + 1).toNat = k + 1 by omega, Int.pow_succ]; omega
        obtain ⟨h, hh⟩ : ∃ h : Int, 2 ^ (D - ((k : Int) + 1)).toNat = h := ⟨_, rfl⟩
        rw [hh] at hp h2h
        have HH := Lib.hid hh
        have E2 := Lib.hid e2
        rw [h2h] at hlo hhi
        have HLO := Lib.hid hlo
        have HHI := Lib.hid hhi
        have H2 := Lib.hid h2h
        have q1 : 2 ^ k + x < 33554432 := by omega
        have q2 : Pos.T k x D ≤ 16777216 := by have := Pos.p2_le D d1; omega
        have q3 : h ≤ Pos.T k x D := by
          have := Pos.T_pos ((k : Int) + 1) (2 * x) D (by omega)
          have := TA.out
          omega
        have q5 : 1 ≤ Pos.T k x D - h := by
          have := Pos.T_pos ((k : Int) + 1) (2 * x) D (by omega)
          have := TA.out
          omega
        have q6 : lo ≤ Pos.T k x D - h - 1 := by omega
        clear hh h2h e2 hx hlo hhi
        cases z with
        | false =>
          go_wp2_with fail
          refine (Pos.trace_ok (2 ^ k + x) k x D _ (by omega) (by omega) d1 x0 (by simpa using X.out) (by simp)).mono ?_
          rintro e w' ⟨rfl, q, rfl⟩
          go_wp2_with fail
          refine (Pos.attack_ok (2 ^ k + x) k x _ (by omega) (by omega) x0 (by simpa using X.out) (by simp)).mono ?_
          rintro e w' ⟨rfl, q, rfl⟩
          go_wp2_with fail
          refine (Err.is_nil _ _).mono ?_
          rintro e w' ⟨rfl, rfl⟩
          go_wp2_with fail
          refine (Pos.trace_ok (2 * (2 ^ k + x)) (k + 1) (2 * x) D _ (by omega) (by omega) d1 (by omega) (by have := E2.out; have := X.out; omega) (by have := E2.out; omega)).mono ?_
          rintro e w' ⟨rfl, q, rfl⟩
          rw [TA.out, HH.out]
          go_wp2_with fail
          go_roundw
          case rel =>
            have h9 := HLO.out
            have h8 := HH.out
            have h7 := TA.out
            have h6 := X.out
            refine ⟨k + 1, 2 * x, lo, Pos.T k x D - 1, by go_num, by congr 1; rw [Int.pow_succ]; omega, rfl, rfl, hlt, by omega, by omega, by rw [Int.pow_succ]; omega, lo0, ?_, Or.inr ?_, by omega, _, rfl⟩
            · simp only [Int.natCast_add, Int.natCast_one]; rw [h7, h8]; omega
            · simp only [Int.natCast_add, Int.natCast_one]; rw [h7, h8]; omega
          case measure => simp [intOf]; omega
        | true =>
          by_cases hl : x + 1 = 2 ^ k
          · have hl2 : (x == 2 ^ k - 1) = true := by rw [beq_iff_eq]; omega
            have HL := Lib.hid hl
            clear hl
            go_wp2_with fail
            refine (Pos.trace_ok (2 ^ k + x) k x D _ (by omega) (by omega) d1 x0 (by simpa using X.out) (by simp)).mono ?_
            rintro e w' ⟨rfl, q, rfl⟩
            go_wp2_with fail
            refine (Pos.attack_ok (2 ^ k + x) k x _ (by omega) (by omega) x0 (by simpa using X.out) (by simp)).mono ?_
            rintro e w' ⟨rfl, q, rfl⟩
            go_wp2_with fail
            refine (Pos.defend_last (2 ^ k + x) k x _ (by omega) (by omega) x0 (by simpa using HL.out) (by simp)).mono ?_
            rintro e w' ⟨rfl, q, rfl⟩
            go_wp2_with fail
            refine (Err.is_num _ _ _).mono ?_
            rintro e w' ⟨rfl, rfl⟩
            go_wp2_with fail
            refine (Pos.parts_ok (2 ^ k + x) k x _ (by omega) (by omega) x0 (by simpa using X.out) (by simp)).mono ?_
            rintro e w' ⟨rfl, q, rfl⟩
            go_wp2_with fail
            go_ret
            exact ⟨rfl, below_drewN (Below.refl _ _) _⟩
          · have HL := Lib.hid (show x + 1 < 2 ^ k by have := X.out; omega)
            have q7 : Pos.T k x D + h - 1 ≤ hi := by
              rcases HHI.out with h5 | h5
              · exact absurd h5 hl
              · omega
            clear hl
            go_wp2_with fail
            refine (Pos.trace_ok (2 ^ k + x) k x D _ (by omega) (by omega) d1 x0 (by simpa using X.out) (by simp)).mono ?_
            rintro e w' ⟨rfl, q, rfl⟩
            go_wp2_with fail
            refine (Pos.attack_ok (2 ^ k + x) k x _ (by omega) (by omega) x0 (by simpa using X.out) (by simp)).mono ?_
            rintro e w' ⟨rfl, q, rfl⟩
            go_wp2_with fail
            refine (Pos.defend_ok (2 ^ k + x) k x _ (by omega) (by omega) x0 (by simpa using HL.out) (by simp)).mono ?_
            rintro e w' ⟨rfl, q, rfl⟩
            go_wp2_with fail
            refine (Err.is_nil _ _).mono ?_
            rintro e w' ⟨rfl, rfl⟩
            go_wp2_with fail
            refine (Pos.trace_ok (2 * (2 ^ k + x + 1)) (k + 1) (2 * x + 2) D _ (by omega) (by omega) d1 (by omega) (by have := E2.out; have := HL.out; omega) (by have := E2.out; omega)).mono ?_
            rintro e w' ⟨rfl, q, rfl⟩
            rw [TD.out, HH.out]
            go_wp2_with fail
            go_roundw
            case rel =>
              have h9 := HLO.out
              have h8 := HH.out
              have h7 := TD.out
              have h6 := HL.out
              refine ⟨k + 1, 2 * x + 2, Pos.T k x D, hi, by go_num, by congr 1; rw [Int.pow_succ]; omega, by first | rfl | (congr 1; omega), rfl, hlt, by omega, by omega, by rw [Int.pow_succ]; omega, by omega, ?_, ?_, by omega, _, rfl⟩
              · simp only [Int.natCast_add, Int.natCast_one]; rw [h7, h8]; omega
              · simp only [Int.natCast_add, Int.natCast_one]; rw [h7, h8]; rcases HHI.out with h5 | h5
                · omega
                · exact Or.inr (by omega)
            case measure => simp [intOf]; omega
    · have hk0 : k = len := by omega
      subst hk0
      clear hx hlo hhi
      go_wp2_with fail
      refine (Pos.trace_ok (2 ^ k + x) k x D _ (by omega) hkD d1 x0 (by simpa using X.out) (by simp)).mono ?_
      rintro e w' ⟨rfl, q, rfl⟩
      go_wp2_with fail
      refine (Pos.highest_ok (2 ^ k + x) k x D _ (by omega) hkD d1 x0 (by simpa using X.out) (by simp) (Pos.tab_drew HT.out)).mono ?_
      rintro e w' ⟨rfl, q, rfl⟩
      obtain ⟨O, hO⟩ : ∃ O, 2 ^ (D - Pos.Up k x D).toNat + Pos.HI k x D = O := ⟨_, rfl⟩
      have HO := Lib.hid hO
      have u := Pos.Up_le k x D (by omega) hkD
      have hs := Lib.hid (Pos.HI_spec k x D (by omega) hkD d1 x0 (by simpa using X.out))
      have ht := Lib.hid (Pos.T_top k x D (by omega) hkD d1 x0 (by simpa using X.out))
      have hle : O ≤ 2 ^ k + x := by have := Pos.top_le k x D (by omega) hkD d1 x0 (by simpa using X.out); simp at this; omega
      rw [hO]
      clear hO
      go_wp2_with fail
      refine (Pos.trace_ok O (D - Pos.Up k x D) (Pos.HI k x D) D _ (by omega) (by omega) d1 hs.out.2.1 hs.out.2.2 HO.out.symm).mono ?_
      rintro e w' ⟨rfl, q, rfl⟩
      rw [ht.out]
      go_wp2_with fail
      go_ret
      exact ⟨rfl, below_drewN (Below.refl _ _) _⟩
set_option maxRecDepth 100000 in
set_option maxHeartbeats 8000000 in
theorem moves_nil (a0 D : Int) (a : Option Addr) (cap : Nat) (eD : 1 + wrap64 ((IntKind.u64.wrap a0).tmod 24) = D) (d0 : 1 ≤ D) (d1 : D ≤ 24) (w : World) (hT : TabAt 0 Lib.deBruijn64tab w) :
    Calls Tryd.prog 6 #[.slice a 0 cap, .int .i64 a0] w fun e w' => e = .returned (.bool true) ∧ Below w.heap.size w w' := by
  have HT := Lib.hid hT
  clear hT
  have p0 := Pos.p2_pos D.toNat
  have p1 := Pos.p2_le D (by omega)
  have u := Pos.Up_le 0 0 D (by decide) (by omega)
  have hs := Lib.hid (Pos.HI_spec 0 0 D (by decide) (by omega) d1 (by decide) (by decide))
  have ht := Lib.hid (Pos.T_top 0 0 D (by decide) (by omega) d1 (by decide) (by decide))
  have hle := Pos.top_le 0 0 D (by decide) (by omega) d1 (by decide) (by decide)
  obtain ⟨O, hO⟩ : ∃ O, 2 ^ (D - Pos.Up 0 0 D).toNat + Pos.HI 0 0 D = O := ⟨_, rfl⟩
  have HO := Lib.hid hO
  have hle2 : O ≤ 1 := by rw [hO] at hle; simpa using hle
  clear hO hle
  go_enter Tryd.func6, Tryd.ntmps6
  go_wp2_with fail
  refine (fixed_true _).mono ?_
  rintro e w' ⟨rfl, q, rfl⟩
  go_wp2_with fail
  refine wp_loop_rounds 1 ?_
  rw [rounds_succ]
  go_wp2_with fail
  refine (Pos.trace_ok 1 0 0 D _ (by decide) (by omega) d1 (by decide) (by decide) (by decide)).mono ?_
  rintro e w' ⟨rfl, q, rfl⟩
  go_wp2_with fail
  refine (Pos.highest_ok 1 0 0 D _ (by decide) (by omega) d1 (by decide) (by decide) (by decide) (Pos.tab_drew HT.out)).mono ?_
  rintro e w' ⟨rfl, q, rfl⟩
  rw [HO.out]
  go_wp2_with fail
  refine (Pos.trace_ok O (D - Pos.Up 0 0 D) (Pos.HI 0 0 D) D _ (by omega) (by omega) d1 hs.out.2.1 hs.out.2.2 HO.out.symm).mono ?_
  rintro e w' ⟨rfl, q, rfl⟩
  rw [ht.out]
  go_wp2_with fail
  go_ret
  exact ⟨rfl, below_drewN (Below.refl _ _) _⟩
theorem positionMoves_walk (a : Option Addr) (len cap : Nat) (a0 : Int) (w : World) (w0 : IsBools w a len cap) (w1 : (Lit.int .i64 a0).wf = true) (hT : TabAt 0 Lib.deBruijn64tab w) :
    Calls Tryd.prog 6 #[.slice a len cap, .int .i64 a0] w fun e w' => e = .returned (.bool true) ∧ Below w.heap.size w w' := by
  have hu0 : 0 ≤ IntKind.u64.wrap a0 := by simp [IntKind.wrap, IntKind.bits, IntKind.signed]; omega
  obtain ⟨D, hD⟩ : ∃ D, 1 + wrap64 ((IntKind.u64.wrap a0).tmod 24) = D := ⟨_, rfl⟩
  have hD2 : 1 ≤ D ∧ D ≤ 24 := by
    rw [← hD, Int.tmod_eq_emod_of_nonneg hu0]; unfold wrap64; omega
  rcases w0 with ⟨rfl, rfl, rfl⟩ | ⟨x, rfl, hl, hm, hcell⟩
  · exact moves_nil a0 D _ _ hD hD2.1 hD2.2 w hT
  · by_cases h0 : len = 0
    · subst h0
      exact moves_nil a0 D _ _ hD hD2.1 hD2.2 w hT
    · obtain ⟨b, off, spot⟩ := x
      obtain ⟨z, hc⟩ := hcell 0 (by omega)
      have hspot : spot = none := by simpa [Addr.add] using World.cell?_spot hc
      subst hspot
      refine moves_in a0 D b off len cap hD hD2.1 hD2.2 (by unfold maxLen at hm; omega) w ?_ hT
      intro i hi
      obtain ⟨z, hz⟩ := hcell i (by omega)
      exact ⟨z, by rw [← add_at]; exact hz⟩
end Go.Proofs.YtlbbnflchkejgaaDoor
