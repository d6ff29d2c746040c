/-
  Layer 18: the walk of LedgerBonds. Own work.
-/
import Derived.Test.YtmelkbainjfkeaaLdgS
import Derived.LoopTactic
import Derived.Outline
import Derived.RegionTactic
import Derived.BigRegion
import Derived.Deep.Cut
namespace Go.Proofs.Ytmelkbainjfkeaa
open Go.RowKit
set_option linter.unusedVariables false
namespace Led
set_option maxHeartbeats 8000000 in
set_option maxRecDepth 100000 in
theorem bonds_many_e (c off len cap : Nat) (zs : List Int) (a1 : Option Addr) (cap1 : Nat) (turn : Int) (w : World) (t0 : -9223372036854775808 ≤ turn) (t1 : turn ≤ 9223372036854775807)
    (cells0 : ∀ i, i < len → w.cell? ⟨c, off + i, none⟩ = some (.int .u64 (zs.getD i 0))) (nn0 : ∀ i, 0 ≤ zs.getD i 0) (hlen : (20 : Int) < (len : Int)) (lm : (len : Int) ≤ (cap : Int)) (lcap : (cap : Int) ≤ 9223372036854775807)  :
    Calls Try.prog 4 #[.slice (some ⟨c, off, none⟩) len cap, .slice a1 0 cap1, .int .i64 turn] w fun e w' => e = .returned (.bool true) ∧ Below w.heap.size w w' := by
  have HC0 := Lib.hid cells0
  have HN0 := Lib.hid nn0
  clear cells0 nn0
  have hd : decide ((20 : Int) < (len : Int)) = true := by simpa using hlen
  go_enter Try.func4, Try.ntmps4
  go_wp2_with fail
  refine (new_at _).mono ?_
  rintro e x1 ⟨b, rfl, hL, hb, hbs, ho⟩
  have HB := Lib.hid hb
  have HS := Lib.hid hbs
  have HO := Lib.hid ho
  clear hb hbs ho
  go_wp2_with fail
  refine (fixed_true _).mono ?_
  rintro e x2 ⟨rfl, hbf⟩
  have m := moves_of_below hL hbf
  have hL2 := is_below hL hbf
  have s := St.ofNew hL2 HB.out HO.out m 41
  clear hbf hL hL2 m
  go_wp2_with fail
  generalize hh : x2.heap.size = h at *
  clear hh
  generalize x2.alloc (.cells #[.int .u64 0, .int .u64 0, .int .u64 0, .int .u64 0, .int .u64 0, .int .u64 0, .int .u64 0, .int .u64 0] 41) = x3 at *
  have s0 := Lib.hid s
  clear s HB HS HO hd
  go_loopw [8, 39] (fun tot i wr => ∃ (k : Nat) (L : LedS), k ≤ 20 ∧ i = .int .i64 k ∧ tot = .int .u64 (LedS.S zs k) ∧ LedS.I1 zs k L ∧ St w b h (fun _ => 0) L wr) (fun _ i _ => 20 - (intOf i).toNat)
  case atStart => exact ⟨0, _, Nat.zero_le _, rfl, rfl, LedS.I1_zero zs, s0.out⟩
  case round =>
    obtain ⟨k, L, hk, rfl, rfl, hI, s⟩ := hrel
    by_cases hlt : (k : Int) < 20
    · have hk20 : k < 20 := by omega
      have hbig : (k : Int) < 9223372036854775807 := by omega
      obtain ⟨L1, L2, e1, e2, e3, hI2⟩ := LedS.I1_step hI hk20
      have hcell : wr.cell? ⟨c, off + k, none⟩ = some (.int .u64 (zs.getD k 0)) := by
        have h0 := HC0.out k (by omega)
        exact (s.below.cell (p := ⟨c, off + k, none⟩) (inHeap h0)).trans h0
      have hz0 := HN0.out k
      have HV := Lib.hid (show zs.getD k 0 % 1099511627776 = LedS.V zs k from rfl)
      generalize zs.getD k 0 = z at *
      have hv := LedS.V_bd zs k
      have hS := LedS.S_bd zs k
      have hS1 : LedS.S zs k + LedS.V zs k ≤ 18446744073709551615 := by omega
      have E1 := Lib.hid e1
      have E2 := Lib.hid e2
      have E3 := Lib.hid e3
      have HI := Lib.hid hI2
      clear e1 e2 e3 hI hI2 hk
      go_wp2_with fail
      rw [HV.out]
      refine (payIn_to b ((k : Int) % 8) (LedS.V zs k) wr L L1 0 .nilIface s.led hv.1 E1.out rfl).mono ?_
      rintro e y1 ⟨rfl, hL1, m1⟩
      have s := s.step hL1 m1
      clear hL1 m1
      go_wp2_with fail
      refine (lock_to b ((k : Int) % 8) (LedS.V zs k) y1 L1 L2 0 k .nilIface s.led hv.1 E2.out E3.out rfl).mono ?_
      rintro e y2 ⟨rfl, hL1, m1⟩
      have s := s.step hL1 m1
      clear hL1 m1
      go_wp2_with fail
      go_roundw
      case rel => exact ⟨k + 1, L2, by omega, by go_num, rfl, HI.out, s⟩
      case measure => simp [intOf]; omega
    · have hkn : k = 20 := by omega
      subst hkn
      have hS := LedS.S_bd zs 20
      have hlk : L.locked = LedS.S zs 20 := by
        have h1 := s.led.ok.sum
        rw [hI.bal 0 (by omega), hI.bal 1 (by omega), hI.bal 2 (by omega), hI.bal 3 (by omega), hI.bal 4 (by omega), hI.bal 5 (by omega), hI.bal 6 (by omega), hI.bal 7 (by omega), hI.pin, hI.pout] at h1
        omega
      have HL := Lib.hid hlk
      have HI := Lib.hid hI
      clear hlk hI hk
      go_wp2_with fail
      refine (locked_to b _ wr L s.led HL.out).mono ?_
      rintro e y1 ⟨rfl, hL1, m1⟩
      have s := s.step hL1 m1
      clear hL1 m1
      go_wp2_with fail
      have hS0 := hS.1
      have hS1 := hS.2
      have I20 := Lib.hid (LedS.I2_zero (turn % 18446744073709551616) HI.out)
      have s0 := Lib.hid s
      clear s
      have sB := Lib.hid (s0.out.cong (B' := L.bal) (fun j hj => (HI.out.bal j hj).symm))
      clear s0 HL HI hS
      go_loopw [79] (fun i wr => ∃ (k2 : Nat) (L : LedS), k2 ≤ 20 ∧ i = .int .i64 k2 ∧ LedS.I2 zs 20 (turn % 18446744073709551616) k2 L ∧ St w b h L.bal L wr) (fun i _ => 20 - (intOf i).toNat)
      case atStart => exact ⟨0, _, Nat.zero_le _, rfl, I20.out, sB.out⟩
      case round =>
        clear I20 sB
        obtain ⟨k2, L2, hk2, rfl, hI2, s⟩ := hrel
        by_cases hlt2 : (k2 : Int) < 20
        · have HK := Lib.hid hk2
          have HI := Lib.hid hI2
          clear hk2 hI2
          have hkf := LedS.kf_lt (show 0 < 20 by omega) (turn % 18446744073709551616) k2
          have hkv : wrap64 ((IntKind.u64.wrap ((IntKind.u64.wrap turn).tmod 20 + (k2 : Int) * 23)).tmod 20) = (LedS.kf 20 (turn % 18446744073709551616) k2 : Int) := kf_go (n := 20) (by omega) (by omega) turn (i := k2) (by omega)
          obtain ⟨L3, g1, g2, g3, g4⟩ := LedS.I2_step HI.out (by omega) (by omega) 3 (by omega) (by omega)
          have hcw := HC0.out (LedS.kf 20 (turn % 18446744073709551616) k2) (by omega)
          have hz0 := HN0.out (LedS.kf 20 (turn % 18446744073709551616) k2)
          have HV := Lib.hid (show zs.getD (LedS.kf 20 (turn % 18446744073709551616) k2) 0 % 1099511627776 = LedS.V zs (LedS.kf 20 (turn % 18446744073709551616) k2) from rfl)
          generalize zs.getD (LedS.kf 20 (turn % 18446744073709551616) k2) 0 = z at *
          have hv := LedS.V_bd zs (LedS.kf 20 (turn % 18446744073709551616) k2)
          generalize LedS.kf 20 (turn % 18446744073709551616) k2 = q at *
          have hb3 := (LedS.bal_le s.led.ok (i := 3) (by omega)).1
          have hb30 := s.led.ok.bal0 3 (by omega)
          have hHW := Lib.hid hcw
          clear hcw
          have G1 := Lib.hid g1
          have G2 := Lib.hid g2
          have G3 := Lib.hid g3
          have G4 := Lib.hid g4
          clear g1 g2 g3 g4
          have HKV := Lib.hid hkv
          clear hkv
          go_wp2_with fail
          rw [HKV.out]
          clear HKV
          refine (give_to b q 3 wr L2 L3 0 .nilIface s.led G1.out rfl).mono ?_
          rintro e y1 ⟨rfl, hL1, m1⟩
          have s := s.step hL1 m1
          clear hL1 m1
          go_wp2_with fail
          refine (give_to b q 3 y1 L3 L3 41 (.iface 38 (.int .i64 41)) s.led G2.out rfl).mono ?_
          rintro e y2 ⟨rfl, hL1, m1⟩
          have s := s.step hL1 m1
          clear hL1 m1
          go_wp2_with fail
          refine (Err.is_num _ _ _).mono ?_
          rintro e w' ⟨rfl, rfl⟩
          go_wp2_with fail
          have hb4 := LedS.bal_le s.led.ok (i := 3) (by omega)
          have hm4 := s.led.ok.most
          have hp4 := s.led.ok.pout0
          have hb5 : L2.bal 3 + LedS.V zs q ≤ 281474976710656 := by
            rw [G4.out] at hb4
            have : LedS.put L2.bal (3 : Int).toNat (L2.bal (3 : Int).toNat + LedS.V zs q) 3 = L2.bal 3 + LedS.V zs q := by unfold LedS.put; rw [if_pos (by first | rfl | omega)]; rfl
            omega
          have hcz : y2.cell? ⟨c, off + q, none⟩ = some (.int .u64 z) := (s.below.cell (p := ⟨c, off + q, none⟩) (inHeap hHW.out)).trans hHW.out
          have hh3 := s.hv 3 (by omega)
          have hf3 := s.fz 3
          have hwr : IntKind.u64.wrap (L2.bal 3 + z % 1099511627776) = L2.bal 3 + z % 1099511627776 := by rw [HV.out, wrapU]; omega
          clear hb3 hb4 hm4 hp4
          go_region
          clear hwr hcz hh3 hf3
          go_wp2_with fail
          go_roundw
          case rel =>
            refine ⟨k2 + 1, L3, by omega, by go_num, G3.out, ((s.put 3 (by omega) _).cong (B' := L3.bal) (fun j _ => ?_)).drewN 1⟩
            have g4 := G4.out
            rw [← HV.out] at g4
            first
              | (rw [g4]; done)
              | (rw [g4]; rfl)
          case measure => simp [intOf]; omega
        · have hkn : k2 = 20 := by omega
          subst hkn
          have hlk := LedS.I2_end hI2 s.led.ok
          have hI3 : LedS.I3 L2.bal (LedS.S zs 20) 0 L2 := ⟨fun j _ => (if_neg (by omega)).symm, hlk, hI2.pin⟩
          have J := Lib.hid hI3
          clear hI2 hlk hI3 hk2
          have B0 := s.led.ok.bal0
          have HB0 := Lib.hid B0
          clear B0
          have c0 := s.hv 0 (by omega)
          have c1 := s.hv 1 (by omega)
          have c2 := s.hv 2 (by omega)
          have c3 := s.hv 3 (by omega)
          have c4 := s.hv 4 (by omega)
          have c5 := s.hv 5 (by omega)
          have c6 := s.hv 6 (by omega)
          have c7 := s.hv 7 (by omega)
          go_wp2_with fail
          refine wp_loop_rounds 9 ?_
          clear c0 c1 c2 c3 c4 c5 c6 c7
          rw [rounds_succ]
          have ix := idx0
          go_wp2_with fail
          clear ix
          obtain ⟨jb, Lp0, jp, J0⟩ := LedS.I3_step J.out (by omega)
          have JB := Lib.hid jb
          have JP := Lib.hid jp
          have J := Lib.hid J0
          clear jb jp J0
          refine (balance_to b 0 (L2.bal 0) _ _ s.led (by decide) (by decide) JB.out).mono ?_
          rintro e v0 ⟨rfl, hL1, m1⟩
          have s := s.step hL1 m1
          clear hL1 m1
          go_wp2_with fail
          refine (payOut_to b 0 (L2.bal 0) _ _ Lp0 0 .nilIface s.led (HB0.out 0 (by omega)) JP.out rfl).mono ?_
          rintro e u0 ⟨rfl, hL1, m1⟩
          have s := s.step hL1 m1
          clear hL1 m1
          go_wp2_with fail
          rw [rounds_succ]
          have ix := idx1
          go_wp2_with fail
          clear ix
          obtain ⟨jb, Lp1, jp, J1⟩ := LedS.I3_step J.out (by omega)
          have JB := Lib.hid jb
          have JP := Lib.hid jp
          have J := Lib.hid J1
          clear jb jp J1
          refine (balance_to b 1 (L2.bal 1) _ _ s.led (by decide) (by decide) JB.out).mono ?_
          rintro e v1 ⟨rfl, hL1, m1⟩
          have s := s.step hL1 m1
          clear hL1 m1
          go_wp2_with fail
          refine (payOut_to b 1 (L2.bal 1) _ _ Lp1 0 .nilIface s.led (HB0.out 1 (by omega)) JP.out rfl).mono ?_
          rintro e u1 ⟨rfl, hL1, m1⟩
          have s := s.step hL1 m1
          clear hL1 m1
          go_wp2_with fail
          rw [rounds_succ]
          have ix := idx2
          go_wp2_with fail
          clear ix
          obtain ⟨jb, Lp2, jp, J2⟩ := LedS.I3_step J.out (by omega)
          have JB := Lib.hid jb
          have JP := Lib.hid jp
          have J := Lib.hid J2
          clear jb jp J2
          refine (balance_to b 2 (L2.bal 2) _ _ s.led (by decide) (by decide) JB.out).mono ?_
          rintro e v2 ⟨rfl, hL1, m1⟩
          have s := s.step hL1 m1
          clear hL1 m1
          go_wp2_with fail
          refine (payOut_to b 2 (L2.bal 2) _ _ Lp2 0 .nilIface s.led (HB0.out 2 (by omega)) JP.out rfl).mono ?_
          rintro e u2 ⟨rfl, hL1, m1⟩
          have s := s.step hL1 m1
          clear hL1 m1
          go_wp2_with fail
          rw [rounds_succ]
          have ix := idx3
          go_wp2_with fail
          clear ix
          obtain ⟨jb, Lp3, jp, J3⟩ := LedS.I3_step J.out (by omega)
          have JB := Lib.hid jb
          have JP := Lib.hid jp
          have J := Lib.hid J3
          clear jb jp J3
          refine (balance_to b 3 (L2.bal 3) _ _ s.led (by decide) (by decide) JB.out).mono ?_
          rintro e v3 ⟨rfl, hL1, m1⟩
          have s := s.step hL1 m1
          clear hL1 m1
          go_wp2_with fail
          refine (payOut_to b 3 (L2.bal 3) _ _ Lp3 0 .nilIface s.led (HB0.out 3 (by omega)) JP.out rfl).mono ?_
          rintro e u3 ⟨rfl, hL1, m1⟩
          have s := s.step hL1 m1
          clear hL1 m1
          go_wp2_with fail
          rw [rounds_succ]
          have ix := idx4
          go_wp2_with fail
          clear ix
          obtain ⟨jb, Lp4, jp, J4⟩ := LedS.I3_step J.out (by omega)
          have JB := Lib.hid jb
          have JP := Lib.hid jp
          have J := Lib.hid J4
          clear jb jp J4
          refine (balance_to b 4 (L2.bal 4) _ _ s.led (by decide) (by decide) JB.out).mono ?_
          rintro e v4 ⟨rfl, hL1, m1⟩
          have s := s.step hL1 m1
          clear hL1 m1
          go_wp2_with fail
          refine (payOut_to b 4 (L2.bal 4) _ _ Lp4 0 .nilIface s.led (HB0.out 4 (by omega)) JP.out rfl).mono ?_
          rintro e u4 ⟨rfl, hL1, m1⟩
          have s := s.step hL1 m1
          clear hL1 m1
          go_wp2_with fail
          rw [rounds_succ]
          have ix := idx5
          go_wp2_with fail
          clear ix
          obtain ⟨jb, Lp5, jp, J5⟩ := LedS.I3_step J.out (by omega)
          have JB := Lib.hid jb
          have JP := Lib.hid jp
          have J := Lib.hid J5
          clear jb jp J5
          refine (balance_to b 5 (L2.bal 5) _ _ s.led (by decide) (by decide) JB.out).mono ?_
          rintro e v5 ⟨rfl, hL1, m1⟩
          have s := s.step hL1 m1
          clear hL1 m1
          go_wp2_with fail
          refine (payOut_to b 5 (L2.bal 5) _ _ Lp5 0 .nilIface s.led (HB0.out 5 (by omega)) JP.out rfl).mono ?_
          rintro e u5 ⟨rfl, hL1, m1⟩
          have s := s.step hL1 m1
          clear hL1 m1
          go_wp2_with fail
          rw [rounds_succ]
          have ix := idx6
          go_wp2_with fail
          clear ix
          obtain ⟨jb, Lp6, jp, J6⟩ := LedS.I3_step J.out (by omega)
          have JB := Lib.hid jb
          have JP := Lib.hid jp
          have J := Lib.hid J6
          clear jb jp J6
          refine (balance_to b 6 (L2.bal 6) _ _ s.led (by decide) (by decide) JB.out).mono ?_
          rintro e v6 ⟨rfl, hL1, m1⟩
          have s := s.step hL1 m1
          clear hL1 m1
          go_wp2_with fail
          refine (payOut_to b 6 (L2.bal 6) _ _ Lp6 0 .nilIface s.led (HB0.out 6 (by omega)) JP.out rfl).mono ?_
          rintro e u6 ⟨rfl, hL1, m1⟩
          have s := s.step hL1 m1
          clear hL1 m1
          go_wp2_with fail
          rw [rounds_succ]
          have ix := idx7
          go_wp2_with fail
          clear ix
          obtain ⟨jb, Lp7, jp, J7⟩ := LedS.I3_step J.out (by omega)
          have JB := Lib.hid jb
          have JP := Lib.hid jp
          have J := Lib.hid J7
          clear jb jp J7
          refine (balance_to b 7 (L2.bal 7) _ _ s.led (by decide) (by decide) JB.out).mono ?_
          rintro e v7 ⟨rfl, hL1, m1⟩
          have s := s.step hL1 m1
          clear hL1 m1
          go_wp2_with fail
          refine (payOut_to b 7 (L2.bal 7) _ _ Lp7 0 .nilIface s.led (HB0.out 7 (by omega)) JP.out rfl).mono ?_
          rintro e u7 ⟨rfl, hL1, m1⟩
          have s := s.step hL1 m1
          clear hL1 m1
          go_wp2_with fail
          rw [rounds_succ]
          go_wp2_with fail
          obtain ⟨z1, z2, z3⟩ := LedS.I3_end J.out s.led.ok
          have Z1 := Lib.hid z1
          have Z2 := Lib.hid z2
          have Z3 := Lib.hid z3
          clear z1 z2 z3
          refine (flows_to b (LedS.S zs 20) (LedS.S zs 20) _ _ s.led Z2.out Z3.out).mono ?_
          rintro e y9 ⟨rfl, hL1, m1⟩
          have s := s.step hL1 m1
          clear hL1 m1
          go_wp2_with fail
          refine (locked_to b 0 _ _ s.led Z1.out).mono ?_
          rintro e y10 ⟨rfl, hL1, m1⟩
          have s := s.step hL1 m1
          clear hL1 m1
          go_wp2_with fail
          go_ret
          exact ⟨rfl, s.below⟩
end Led
end Go.Proofs.Ytmelkbainjfkeaa
