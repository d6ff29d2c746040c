/-
  The walk of ClockSides. Own work.
-/
import Derived.Test.YtfapkffdhflliaaClkF
import Derived.OpenShut
import Derived.LoopTactic
namespace Go.Proofs.Ytfapkffdhflliaa
open Go.RowKit
set_option linter.unusedVariables false
/-- What holds at a round's head. -/
def SRel (w0 w1 wr : World) (len : Nat) (L R D : Int) (vb vn vm vi : Value) : Prop :=
  ∃ (k : Nat) (B N U M : Int), vi = .int .i64 k ∧ vb = .int .u64 B ∧ vn = .int .u64 N ∧ vm = .int .u64 M ∧ k ≤ len ∧ k ≤ 60 ∧ M = (k + 1) / 2 ∧
    0 ≤ B ∧ B ≤ 1000 ∧ 0 ≤ U ∧ U ≤ 1000 ∧ 0 ≤ N ∧ N ≤ 1000 * k ∧ (k % 2 = 0 → B ≤ M * D) ∧ (k % 2 = 1 → U ≤ M * D) ∧
    wr.cell? ⟨w1.heap.size, 0, none⟩ = some (.int .u64 L) ∧ wr.cell? ⟨w1.heap.size, 1, none⟩ = some (.int .u64 R) ∧
    wr.cell? ⟨w1.heap.size + 1, 0, none⟩ = some (.int .u64 U) ∧ wr.cell? ⟨w1.heap.size + 1, 1, none⟩ = some (.int .u64 N) ∧
    wr.frozen? ⟨w1.heap.size + 1, 0, none⟩ = false ∧ wr.frozen? ⟨w1.heap.size + 1, 1, none⟩ = false ∧
    w1.heap.size + 1 < wr.heap.size ∧ Below w0.heap.size w0 wr
set_option maxRecDepth 100000 in
set_option maxHeartbeats 4000000 in
theorem sides_in (l g d L R D : Int) (b off len cap : Nat) (zs : List Int) (w : World)
    (eL : 1 + l % 1000 = L) (eR : g % (L + 1) = R) (eD : d % 20 = D)
    (l0 : 0 ≤ l) (g0 : 0 ≤ g) (d0 : 0 ≤ d) (hL : 1 ≤ L ∧ L ≤ 1000) (hR : 0 ≤ R ∧ R ≤ L) (hD : 0 ≤ D ∧ D < 20)
    (hlen : (len : Int) ≤ 9223372036854775807) (hcell : ∀ i, i < len → ∃ z, 0 ≤ z ∧ w.cell? ⟨b, off + i, none⟩ = some (.int .u64 z)) :
    Calls Try.prog 5 #[.int .u64 l, .int .u64 g, .slice (some ⟨b, off, none⟩) len cap, .int .u64 d] w fun e w' => e = .returned (.bool true) ∧ Below w.heap.size w w' := by
  have HC := Lib.hid hcell
  clear hcell
  go_enter Try.func5, Try.ntmps5
  go_wp2_with fail
  refine (fixed_true _).mono ?_
  rintro e w1 ⟨rfl, hb1⟩
  go_wp2_with fail
  have hz1 := hb1.size
  have hB1 := ((hb1.alloc hz1 (.cells #[.int .u64 L, .int .u64 R] 24)).alloc (by simp; omega) (.cells #[.int .u64 0, .int .u64 0] 26))
  simp only [eR, eD]
  go_loopw [11, 12, 13, 36] (fun vb vn vm vi wr => SRel w w1 wr len L R D vb vn vm vi) (fun _ _ _ vi _ => len - (intOf vi).toNat)
  case atStart =>
    refine ⟨0, 0, 0, 0, 0, rfl, rfl, rfl, rfl, Nat.zero_le _, by decide, by decide, by decide, by decide, by decide, by decide, by decide, by decide, ?_, ?_, ?_, ?_, ?_, ?_, ?_, ?_, ?_, hB1⟩
    · intro _; simp
    · intro h; simp at h
    all_goals simp [go_sem]
  case round =>
    obtain ⟨k, B, N, U, M, rfl, rfl, rfl, rfl, hk, h60, hM, hB0, hB1', hU0, hU1, hN0, hN1, hEv, hOd, c1, c2, c3, c4, f3, f4, hsz, hbw⟩ := hrel
    clear hB1 hb1
    by_cases hlt : k < len
    · obtain ⟨x, hx0, hx⟩ := HC.out k hlt
      have hx' := keep1 hbw hx
      clear hx
      by_cases h6 : k < 60
      · by_cases hp : k % 2 = 0
        · have hEv' := hEv hp
          clear hEv hOd
          have hpb : (((k : Int) % 2) == 0) = true := by simp; omega
          have hP : (M + 1) * D = M * D + D := by rw [Int.add_mul, Int.one_mul]
          obtain ⟨Q, hQ⟩ : ∃ Q, (M + 1) * D = Q := ⟨_, rfl⟩
          obtain ⟨y, hy⟩ : ∃ y, x % (D + 1) = y := ⟨_, rfl⟩
          have hy0 := Int.emod_nonneg x (show D + 1 ≠ 0 by omega)
          have hy1 := Int.emod_lt_of_pos x (show 0 < D + 1 by omega)
          have hMD : M * D ≤ 1200 := by
            have := Int.mul_le_mul (show M ≤ 60 by omega) (show D ≤ 20 by omega) hD.1 (by omega)
            simpa using this
          rw [hy] at hy0 hy1
          have q0 : 0 ≤ Q := by omega
          have q1 : Q ≤ 1220 := by omega
          have q2 : B + y ≤ Q := by omega
          have m0 : 0 ≤ M := by omega
          have m1 : M ≤ 60 := by omega
          have HQ := Lib.hid hP
          have HM := Lib.hid hM
          clear hP hM hEv' hMD
          by_cases hs : B + y < L
          · go_wp2_with fail
            refine (Clk.next_ok L R U N B (N + y) _ (by omega) (by omega) (by omega) (by omega) (by omega) (by omega) (by omega) (by omega) (by omega) (by omega) (by omega) (by omega)).mono ?_
            rintro e w2 ⟨rfl, hb2⟩
            obtain ⟨V, hV⟩ : ∃ V, min (B + (N + y) - N) (L - R) = V := ⟨_, rfl⟩
            rw [hV]
            have hV0 : 0 ≤ V := by omega
            have hV1 : V ≤ 1000 := by omega
            have hV2 : V ≤ Q := by omega
            have hV3 : R ≤ L - V := by omega
            clear hV
            have hz2 := hb2.size
            have B2 := blo0 hbw hb2 hbw.size
            have c1 := keep1 hb2 c1
            have c2 := keep1 hb2 c2
            have c3 := keep1 hb2 c3
            have c4 := keep1 hb2 c4
            have f3 := keepF hb2 hsz f3
            have f4 := keepF hb2 hsz f4
            have y1 : w1.heap.size < w2.heap.size := by omega
            have y2 : w1.heap.size + 1 < w2.heap.size := by omega
            go_wp2_with fail
            all_goals
              go_roundw
              case rel =>
                have hMD := HQ.out
                have hM := HM.out
                refine ⟨k + 1, U, N + y, V, M + 1, by go_num, rfl, rfl, rfl, hlt, h6, by omega, hU0, hU1, hV0, hV1, by omega, by omega, ?_, ?_, ?_, ?_, ?_, ?_, ?_, ?_, ?_, ?_⟩
                · intro h; omega
                · intro h; rw [hQ]; omega
                · exact (setTwo _ c3 c4 f3 f4).2.2.2.2 _ _ _ (by omega) c1
                · exact (setTwo _ c3 c4 f3 f4).2.2.2.2 _ _ _ (by omega) c2
                · exact (setTwo _ c3 c4 f3 f4).1
                · exact (setTwo _ c3 c4 f3 f4).2.1
                · exact (setTwo _ c3 c4 f3 f4).2.2.1
                · exact (setTwo _ c3 c4 f3 f4).2.2.2.1
                · simp; omega
                · exact ((B2.setCell (by simp; have := hbw.size; omega) _).setCell (by simp; omega) _).alloc (by simp; omega) _
              case measure => simp [intOf]; omega
          · have hd : decide (L ≤ B + y) = true := by simp; omega
            go_wp2_with fail
            refine (Clk.next_out L R U N B (N + y) _ (by omega) (by omega) (by omega) (by omega) (by omega) (by omega) (by omega) (by omega) (by omega) (by omega) (by omega)).mono ?_
            rintro e w2 ⟨rfl, hb2⟩
            have hz2 := hb2.size
            have B2 := blo0 hbw hb2 hbw.size
            have c1 := keep1 hb2 c1
            have c2 := keep1 hb2 c2
            have c3 := keep1 hb2 c3
            have c4 := keep1 hb2 c4
            have y1 : w1.heap.size < w2.heap.size := by omega
            have y2 : w1.heap.size + 1 < w2.heap.size := by omega
            go_wp2_with fail
            refine (Err.is_num _ _ _).mono ?_
            rintro e w' ⟨rfl, rfl⟩
            go_wp2_with fail
            go_ret
            exact ⟨rfl, B2.alloc (by omega) _⟩
        · have hp1 : k % 2 = 1 := by omega
          have hOd' := hOd hp1
          clear hEv hOd
          have hpb : (((k : Int) % 2) == 0) = false := by rw [beq_eq_false_iff_ne]; omega
          obtain ⟨y, hy⟩ : ∃ y, x % 1000 = y := ⟨_, rfl⟩
          have hy0 : 0 ≤ y := by omega
          have hy1 : y < 1000 := by omega
          have HM := Lib.hid hM
          have HU := Lib.hid hOd'
          clear hM hOd'
          by_cases hs : B + y < L
          · go_wp2_with fail
            refine (Clk.next_ok L R U N B (N + y) _ (by omega) (by omega) (by omega) (by omega) (by omega) (by omega) (by omega) (by omega) (by omega) (by omega) (by omega) (by omega)).mono ?_
            rintro e w2 ⟨rfl, hb2⟩
            obtain ⟨V, hV⟩ : ∃ V, min (B + (N + y) - N) (L - R) = V := ⟨_, rfl⟩
            rw [hV]
            have hV0 : 0 ≤ V := by omega
            have hV1 : V ≤ 1000 := by omega
            clear hV
            have hz2 := hb2.size
            have B2 := blo0 hbw hb2 hbw.size
            have c1 := keep1 hb2 c1
            have c2 := keep1 hb2 c2
            have c3 := keep1 hb2 c3
            have c4 := keep1 hb2 c4
            have f3 := keepF hb2 hsz f3
            have f4 := keepF hb2 hsz f4
            have y1 : w1.heap.size < w2.heap.size := by omega
            have y2 : w1.heap.size + 1 < w2.heap.size := by omega
            go_wp2_with fail
            all_goals
              go_roundw
              case rel =>
                have hM := HM.out
                have hOd' := HU.out
                refine ⟨k + 1, U, N + y, V, M, by go_num, rfl, rfl, rfl, hlt, h6, by omega, hU0, hU1, hV0, hV1, by omega, by omega, ?_, ?_, ?_, ?_, ?_, ?_, ?_, ?_, ?_, ?_⟩
                · intro h; omega
                · intro h; omega
                · exact (setTwo _ c3 c4 f3 f4).2.2.2.2 _ _ _ (by omega) c1
                · exact (setTwo _ c3 c4 f3 f4).2.2.2.2 _ _ _ (by omega) c2
                · exact (setTwo _ c3 c4 f3 f4).1
                · exact (setTwo _ c3 c4 f3 f4).2.1
                · exact (setTwo _ c3 c4 f3 f4).2.2.1
                · exact (setTwo _ c3 c4 f3 f4).2.2.2.1
                · simp; omega
                · exact ((B2.setCell (by simp; have := hbw.size; omega) _).setCell (by simp; omega) _).alloc (by simp; omega) _
              case measure => simp [intOf]; omega
          · have hd : decide (L ≤ B + y) = true := by simp; omega
            go_wp2_with fail
            refine (Clk.next_out L R U N B (N + y) _ (by omega) (by omega) (by omega) (by omega) (by omega) (by omega) (by omega) (by omega) (by omega) (by omega) (by omega)).mono ?_
            rintro e w2 ⟨rfl, hb2⟩
            have hz2 := hb2.size
            have B2 := blo0 hbw hb2 hbw.size
            have c1 := keep1 hb2 c1
            have c2 := keep1 hb2 c2
            have c3 := keep1 hb2 c3
            have c4 := keep1 hb2 c4
            have y1 : w1.heap.size < w2.heap.size := by omega
            have y2 : w1.heap.size + 1 < w2.heap.size := by omega
            go_wp2_with fail
            refine (Err.is_num _ _ _).mono ?_
            rintro e w' ⟨rfl, rfl⟩
            go_wp2_with fail
            go_ret
            exact ⟨rfl, B2.alloc (by omega) _⟩
      · have hk : k = 60 := by omega
        subst hk
        go_wp2_with fail
        go_ret
        exact ⟨rfl, hbw⟩
    · have hk : k = len := by omega
      subst hk
      go_wp2_with fail
      go_ret
      exact ⟨rfl, hbw⟩
set_option maxRecDepth 100000 in
set_option maxHeartbeats 4000000 in
theorem sides_nil (l g d L R D : Int) (a : Option Addr) (cap : Nat) (w : World)
    (eL : 1 + l % 1000 = L) (eR : g % (L + 1) = R) (eD : d % 20 = D)
    (l0 : 0 ≤ l) (g0 : 0 ≤ g) (d0 : 0 ≤ d) (hL : 1 ≤ L ∧ L ≤ 1000) (hR : 0 ≤ R ∧ R ≤ L) (hD : 0 ≤ D ∧ D < 20) :
    Calls Try.prog 5 #[.int .u64 l, .int .u64 g, .slice a 0 cap, .int .u64 d] w fun e w' => e = .returned (.bool true) ∧ Below w.heap.size w w' := by
  go_enter Try.func5, Try.ntmps5
  go_wp2_with fail
  refine (fixed_true _).mono ?_
  rintro e w1 ⟨rfl, hb1⟩
  go_wp2_with fail
  refine wp_loop_rounds 1 ?_
  rw [rounds_succ]
  go_wp2_with fail
  go_ret
  exact ⟨rfl, (hb1.alloc hb1.size _).alloc (by simp; have := hb1.size; omega) _⟩
theorem clockSides_walk (l g : Int) (a : Option Addr) (len cap : Nat) (zs : List Int) (d : Int) (w0 : (Lit.int .u64 l).wf = true) (w1 : (Lit.int .u64 g).wf = true) (w : World) (w2 : IsRow .u64 w a len cap zs) (w3 : (Lit.int .u64 d).wf = true) :
    Calls Try.prog 5 #[.int .u64 l, .int .u64 g, .slice a len cap, .int .u64 d] w fun e w' => e = .returned (.bool true) ∧ Below w.heap.size w w' := by
  have b0 := bounds_u64 w0
  have b1 := bounds_u64 w1
  have b3 := bounds_u64 w3
  have r0 := Int.emod_nonneg g (show 1 + l % 1000 + 1 ≠ 0 by omega)
  have r1 := Int.emod_lt_of_pos g (show 0 < 1 + l % 1000 + 1 by omega)
  rcases w2 with ⟨rfl, rfl, rfl, rfl⟩ | ⟨x, rfl, hl, hm, hz, hcell, hwz⟩
  · exact sides_nil l g d _ _ _ _ _ w rfl rfl rfl b0.1 b1.1 b3.1 (by omega) ⟨r0, by omega⟩ (by omega)
  · by_cases h0 : len = 0
    · subst h0
      exact sides_nil l g d _ _ _ _ _ w rfl rfl rfl b0.1 b1.1 b3.1 (by omega) ⟨r0, by omega⟩ (by omega)
    · obtain ⟨b, off, spot⟩ := x
      have hc := hcell 0 (by omega)
      have hspot : spot = none := by simpa [Addr.add] using World.cell?_spot hc
      subst hspot
      refine sides_in l g d _ _ _ b off len cap zs w rfl rfl rfl b0.1 b1.1 b3.1 (by omega) ⟨r0, by omega⟩ (by omega) (by unfold maxLen at hm; omega) ?_
      intro i hi
      refine ⟨zs.getD i 0, ?_, by rw [← add_at]; exact hcell i (by omega)⟩
      have := range_u64 hwz i
      simpa [List.getD] using this.1
end Go.Proofs.Ytfapkffdhflliaa
