/-
  Layer 18: the walk of LedgerBonds. Own work.
-/
import Derived.Test.YtmelkbainjfkeaaLdgS
import Derived.LoopTactic
import Derived.Outline
import Derived.RegionTactic
import Derived.BigRegion
import Derived.Deep.Cut
namespace Go.Proofs.Ytmelkbainjfkeaa
open Go.RowKit
set_option linter.unusedVariables false
namespace Led
set_option maxHeartbeats 8000000 in
set_option maxRecDepth 100000 in
theorem bonds_none (a : Option Addr) (cap : Nat) (a1 : Option Addr) (len1 cap1 : Nat) (turn : Int) (w : World) :
    Calls Try.prog 4 #[.slice a 0 cap, .slice a1 len1 cap1, .int .i64 turn] w fun e w' => e = .returned (.bool true) ∧ Below w.heap.size w w' := by
  go_enter Try.func4, Try.ntmps4
  go_wp2_with fail
  refine (new_at _).mono ?_
  rintro e x1 ⟨b, rfl, hL, hb, hbs, ho⟩
  have HB := Lib.hid hb
  have HS := Lib.hid hbs
  have HO := Lib.hid ho
  clear hb hbs ho
  go_wp2_with fail
  refine (fixed_true _).mono ?_
  rintro e x2 ⟨rfl, hbf⟩
  have m := moves_of_below hL hbf
  have hL2 := is_below hL hbf
  have s := St.ofNew hL2 HB.out HO.out m 41
  clear hbf hL hL2 m
  go_wp2_with fail
  generalize hh : x2.heap.size = h at *
  clear hh
  generalize x2.alloc (.cells #[.int .u64 0, .int .u64 0, .int .u64 0, .int .u64 0, .int .u64 0, .int .u64 0, .int .u64 0, .int .u64 0] 41) = x3 at *
  clear HB HS HO
  refine wp_loop_rounds 1 ?_
  rw [rounds_succ]
  go_wp2_with fail
  refine (locked_to b 0 _ _ s.led rfl).mono ?_
  rintro e y1 ⟨rfl, hL1, m1⟩
  have s := s.step hL1 m1
  clear hL1 m1
  go_wp2_with fail
  refine wp_loop_rounds 1 ?_
  rw [rounds_succ]
  have J := Lib.hid (show LedS.I3 (fun _ => 0) 0 0 LedS.init from ⟨fun j _ => (if_neg (by omega)).symm, rfl, rfl⟩)
  have c0 := s.hv 0 (by omega)
  have c1 := s.hv 1 (by omega)
  have c2 := s.hv 2 (by omega)
  have c3 := s.hv 3 (by omega)
  have c4 := s.hv 4 (by omega)
  have c5 := s.hv 5 (by omega)
  have c6 := s.hv 6 (by omega)
  have c7 := s.hv 7 (by omega)
  go_wp2_with fail
  refine wp_loop_rounds 9 ?_
  clear c0 c1 c2 c3 c4 c5 c6 c7
  rw [rounds_succ]
  have ix := idx0
  go_wp2_with fail
  clear ix
  obtain ⟨jb, Lp0, jp, J0⟩ := LedS.I3_step J.out (by omega)
  have JB := Lib.hid jb
  have JP := Lib.hid jp
  have J := Lib.hid J0
  clear jb jp J0
  refine (balance_to b 0 0 _ _ s.led (by decide) (by decide) JB.out).mono ?_
  rintro e v0 ⟨rfl, hL1, m1⟩
  have s := s.step hL1 m1
  clear hL1 m1
  go_wp2_with fail
  refine (payOut_to b 0 0 _ _ Lp0 0 .nilIface s.led (by decide) JP.out rfl).mono ?_
  rintro e u0 ⟨rfl, hL1, m1⟩
  have s := s.step hL1 m1
  clear hL1 m1
  go_wp2_with fail
  rw [rounds_succ]
  have ix := idx1
  go_wp2_with fail
  clear ix
  obtain ⟨jb, Lp1, jp, J1⟩ := LedS.I3_step J.out (by omega)
  have JB := Lib.hid jb
  have JP := Lib.hid jp
  have J := Lib.hid J1
  clear jb jp J1
  refine (balance_to b 1 0 _ _ s.led (by decide) (by decide) JB.out).mono ?_
  rintro e v1 ⟨rfl, hL1, m1⟩
  have s := s.step hL1 m1
  clear hL1 m1
  go_wp2_with fail
  refine (payOut_to b 1 0 _ _ Lp1 0 .nilIface s.led (by decide) JP.out rfl).mono ?_
  rintro e u1 ⟨rfl, hL1, m1⟩
  have s := s.step hL1 m1
  clear hL1 m1
  go_wp2_with fail
  rw [rounds_succ]
  have ix := idx2
  go_wp2_with fail
  clear ix
  obtain ⟨jb, Lp2, jp, J2⟩ := LedS.I3_step J.out (by omega)
  have JB := Lib.hid jb
  have JP := Lib.hid jp
  have J := Lib.hid J2
  clear jb jp J2
  refine (balance_to b 2 0 _ _ s.led (by decide) (by decide) JB.out).mono ?_
  rintro e v2 ⟨rfl, hL1, m1⟩
  have s := s.step hL1 m1
  clear hL1 m1
  go_wp2_with fail
  refine (payOut_to b 2 0 _ _ Lp2 0 .nilIface s.led (by decide) JP.out rfl).mono ?_
  rintro e u2 ⟨rfl, hL1, m1⟩
  have s := s.step hL1 m1
  clear hL1 m1
  go_wp2_with fail
  rw [rounds_succ]
  have ix := idx3
  go_wp2_with fail
  clear ix
  obtain ⟨jb, Lp3, jp, J3⟩ := LedS.I3_step J.out (by omega)
  have JB := Lib.hid jb
  have JP := Lib.hid jp
  have J := Lib.hid J3
  clear jb jp J3
  refine (balance_to b 3 0 _ _ s.led (by decide) (by decide) JB.out).mono ?_
  rintro e v3 ⟨rfl, hL1, m1⟩
  have s := s.step hL1 m1
  clear hL1 m1
  go_wp2_with fail
  refine (payOut_to b 3 0 _ _ Lp3 0 .nilIface s.led (by decide) JP.out rfl).mono ?_
  rintro e u3 ⟨rfl, hL1, m1⟩
  have s := s.step hL1 m1
  clear hL1 m1
  go_wp2_with fail
  rw [rounds_succ]
  have ix := idx4
  go_wp2_with fail
  clear ix
  obtain ⟨jb, Lp4, jp, J4⟩ := LedS.I3_step J.out (by omega)
  have JB := Lib.hid jb
  have JP := Lib.hid jp
  have J := Lib.hid J4
  clear jb jp J4
  refine (balance_to b 4 0 _ _ s.led (by decide) (by decide) JB.out).mono ?_
  rintro e v4 ⟨rfl, hL1, m1⟩
  have s := s.step hL1 m1
  clear hL1 m1
  go_wp2_with fail
  refine (payOut_to b 4 0 _ _ Lp4 0 .nilIface s.led (by decide) JP.out rfl).mono ?_
  rintro e u4 ⟨rfl, hL1, m1⟩
  have s := s.step hL1 m1
  clear hL1 m1
  go_wp2_with fail
  rw [rounds_succ]
  have ix := idx5
  go_wp2_with fail
  clear ix
  obtain ⟨jb, Lp5, jp, J5⟩ := LedS.I3_step J.out (by omega)
  have JB := Lib.hid jb
  have JP := Lib.hid jp
  have J := Lib.hid J5
  clear jb jp J5
  refine (balance_to b 5 0 _ _ s.led (by decide) (by decide) JB.out).mono ?_
  rintro e v5 ⟨rfl, hL1, m1⟩
  have s := s.step hL1 m1
  clear hL1 m1
  go_wp2_with fail
  refine (payOut_to b 5 0 _ _ Lp5 0 .nilIface s.led (by decide) JP.out rfl).mono ?_
  rintro e u5 ⟨rfl, hL1, m1⟩
  have s := s.step hL1 m1
  clear hL1 m1
  go_wp2_with fail
  rw [rounds_succ]
  have ix := idx6
  go_wp2_with fail
  clear ix
  obtain ⟨jb, Lp6, jp, J6⟩ := LedS.I3_step J.out (by omega)
  have JB := Lib.hid jb
  have JP := Lib.hid jp
  have J := Lib.hid J6
  clear jb jp J6
  refine (balance_to b 6 0 _ _ s.led (by decide) (by decide) JB.out).mono ?_
  rintro e v6 ⟨rfl, hL1, m1⟩
  have s := s.step hL1 m1
  clear hL1 m1
  go_wp2_with fail
  refine (payOut_to b 6 0 _ _ Lp6 0 .nilIface s.led (by decide) JP.out rfl).mono ?_
  rintro e u6 ⟨rfl, hL1, m1⟩
  have s := s.step hL1 m1
  clear hL1 m1
  go_wp2_with fail
  rw [rounds_succ]
  have ix := idx7
  go_wp2_with fail
  clear ix
  obtain ⟨jb, Lp7, jp, J7⟩ := LedS.I3_step J.out (by omega)
  have JB := Lib.hid jb
  have JP := Lib.hid jp
  have J := Lib.hid J7
  clear jb jp J7
  refine (balance_to b 7 0 _ _ s.led (by decide) (by decide) JB.out).mono ?_
  rintro e v7 ⟨rfl, hL1, m1⟩
  have s := s.step hL1 m1
  clear hL1 m1
  go_wp2_with fail
  refine (payOut_to b 7 0 _ _ Lp7 0 .nilIface s.led (by decide) JP.out rfl).mono ?_
  rintro e u7 ⟨rfl, hL1, m1⟩
  have s := s.step hL1 m1
  clear hL1 m1
  go_wp2_with fail
  rw [rounds_succ]
  go_wp2_with fail
  obtain ⟨z1, z2, z3⟩ := LedS.I3_end J.out s.led.ok
  have Z1 := Lib.hid z1
  have Z2 := Lib.hid z2
  have Z3 := Lib.hid z3
  clear z1 z2 z3
  refine (flows_to b 0 0 _ _ s.led Z2.out Z3.out).mono ?_
  rintro e y9 ⟨rfl, hL1, m1⟩
  have s := s.step hL1 m1
  clear hL1 m1
  go_wp2_with fail
  refine (locked_to b 0 _ _ s.led Z1.out).mono ?_
  rintro e y10 ⟨rfl, hL1, m1⟩
  have s := s.step hL1 m1
  clear hL1 m1
  go_wp2_with fail
  go_ret
  exact ⟨rfl, s.below⟩
end Led
end Go.Proofs.Ytmelkbainjfkeaa
