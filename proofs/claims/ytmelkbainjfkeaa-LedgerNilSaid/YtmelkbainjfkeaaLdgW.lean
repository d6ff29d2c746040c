/-
  Layer 18: the walks of LedgerKnown and LedgerNil. Own work.
-/
import Derived.Test.YtmelkbainjfkeaaLdgF
namespace Go.Proofs.Ytmelkbainjfkeaa
open Go.RowKit
set_option linter.unusedVariables false
namespace Led
theorem much : E4.payIn 1 281474976710656 = (2, E4) := by
  have h : E4.pin = 10 := rfl
  unfold LedS.payIn
  rw [if_neg (by omega), if_pos (by omega)]
set_option maxHeartbeats 2000000 in
set_option maxRecDepth 100000 in
theorem ledgerKnown_walk (w : World) :
    Calls Try.prog 3 #[] w fun e w' => e = .returned (.bool true) ∧ Below w.heap.size w w' := by
  go_enter Try.func3, Try.ntmps3
  go_wp2_with fail
  refine (new_at _).mono ?_
  rintro e w1 ⟨b, rfl, hL, hb, hbs, ho⟩
  have HB := Lib.hid hb
  have HS := Lib.hid hbs
  have HO := Lib.hid ho
  clear hb hbs ho
  have m := moves_refl b w1
  go_wp2_with fail
  refine (payIn_to b 1 10 w1 _ E1 0 .nilIface hL (by decide) rfl rfl).mono ?_
  rintro e w2 ⟨rfl, hL, m2⟩
  have m := moves_trans m m2
  clear m2
  go_wp2_with fail
  refine (lock_to b 1 4 w2 _ E2 0 0 .nilIface hL (by decide) rfl rfl rfl).mono ?_
  rintro e w3 ⟨rfl, hL, m2⟩
  have m := moves_trans m m2
  clear m2
  go_wp2_with fail
  refine (balance_to b 1 6 w3 _ hL (by decide) (by decide) rfl).mono ?_
  rintro e w4 ⟨rfl, hL, m2⟩
  have m := moves_trans m m2
  clear m2
  go_wp2_with fail
  refine (locked_to b 4 w4 _ hL rfl).mono ?_
  rintro e w5 ⟨rfl, hL, m2⟩
  have m := moves_trans m m2
  clear m2
  go_wp2_with fail
  refine (give_to b 0 2 w5 _ E3 0 .nilIface hL rfl rfl).mono ?_
  rintro e w6 ⟨rfl, hL, m2⟩
  have m := moves_trans m m2
  clear m2
  go_wp2_with fail
  refine (balance_to b 2 4 w6 _ hL (by decide) (by decide) rfl).mono ?_
  rintro e w7 ⟨rfl, hL, m2⟩
  have m := moves_trans m m2
  clear m2
  go_wp2_with fail
  refine (give_to b 0 2 w7 _ E3 41 (.iface 38 (.int .i64 41)) hL rfl rfl).mono ?_
  rintro e w8 ⟨rfl, hL, m2⟩
  have m := moves_trans m m2
  clear m2
  go_wp2_with fail
  refine (payOut_to b 2 5 w8 _ E3 21 (.iface 38 (.int .i64 21)) hL (by decide) rfl rfl).mono ?_
  rintro e w9 ⟨rfl, hL, m2⟩
  have m := moves_trans m m2
  clear m2
  go_wp2_with fail
  refine (payOut_to b 2 4 w9 _ E4 0 .nilIface hL (by decide) rfl rfl).mono ?_
  rintro e w10 ⟨rfl, hL, m2⟩
  have m := moves_trans m m2
  clear m2
  go_wp2_with fail
  refine (flows_to b 10 4 w10 _ hL rfl rfl).mono ?_
  rintro e w11 ⟨rfl, hL, m2⟩
  have m := moves_trans m m2
  clear m2
  go_wp2_with fail
  refine (balance_no b 8 w11 _ hL (by decide)).mono ?_
  rintro e w12 ⟨rfl, hL, m2⟩
  have m := moves_trans m m2
  clear m2
  go_wp2_with fail
  refine (fixed_true _).mono ?_
  rintro e w13 ⟨rfl, hbf⟩
  have HF := Lib.hid hbf
  clear hbf
  go_wp2_with fail
  refine (Err.is_num _ _ _).mono ?_
  rintro e w' ⟨rfl, rfl⟩
  go_wp2_with fail
  refine (Err.is_num _ _ _).mono ?_
  rintro e w' ⟨rfl, rfl⟩
  go_wp2_with fail
  refine (Err.is_num _ _ _).mono ?_
  rintro e w' ⟨rfl, rfl⟩
  have m := moves_trans m (moves_of_below hL HF.out)
  have hL := is_below hL HF.out
  go_wp2_with fail
  refine (payIn_to b 1 281474976710656 w13 _ E4 2 (.iface 38 (.int .i64 2)) hL (by decide) much rfl).mono ?_
  rintro e w14 ⟨rfl, hL, m2⟩
  have m := moves_trans m m2
  clear m2
  go_wp2_with fail
  refine (Err.is_num _ _ _).mono ?_
  rintro e w' ⟨rfl, rfl⟩
  go_wp2_with fail
  go_ret
  exact ⟨rfl, moves_below HB.out HO.out m⟩
set_option maxRecDepth 100000 in
theorem ledgerNil_walk (p n v : Int) (wp : (Lit.int .i64 p).wf = true) (wn : (Lit.int .i64 n).wf = true) (wv : (Lit.int .u64 v).wf = true) (w : World) :
    Calls Try.prog 5 #[.int .i64 p, .int .i64 n, .int .u64 v] w fun e w' => e = .returned (.bool true) ∧ Below w.heap.size w w' := by
  clear wp wn wv
  go_enter Try.func5, Try.ntmps5
  go_wp2_with fail
  refine (lock_nil p v _).mono ?_
  rintro e w' ⟨rfl, rfl⟩
  go_wp2_with fail
  refine (balance_nil p _).mono ?_
  rintro e w' ⟨rfl, rfl⟩
  go_wp2_with fail
  refine (payIn_nil p v _).mono ?_
  rintro e w' ⟨rfl, rfl⟩
  go_wp2_with fail
  refine (payOut_nil p v _).mono ?_
  rintro e w' ⟨rfl, rfl⟩
  go_wp2_with fail
  refine (give_nil n p _).mono ?_
  rintro e w' ⟨rfl, rfl⟩
  go_wp2_with fail
  refine wp_loop_rounds 6 ?_
  rw [rounds_succ]
  go_wp2_with fail
  refine (Err.is_num _ _ _).mono ?_
  rintro e w' ⟨rfl, rfl⟩
  go_wp2_with fail
  rw [rounds_succ]
  go_wp2_with fail
  refine (Err.is_num _ _ _).mono ?_
  rintro e w' ⟨rfl, rfl⟩
  go_wp2_with fail
  rw [rounds_succ]
  go_wp2_with fail
  refine (Err.is_num _ _ _).mono ?_
  rintro e w' ⟨rfl, rfl⟩
  go_wp2_with fail
  rw [rounds_succ]
  go_wp2_with fail
  refine (Err.is_num _ _ _).mono ?_
  rintro e w' ⟨rfl, rfl⟩
  go_wp2_with fail
  rw [rounds_succ]
  go_wp2_with fail
  refine (Err.is_num _ _ _).mono ?_
  rintro e w' ⟨rfl, rfl⟩
  go_wp2_with fail
  rw [rounds_succ]
  go_wp2_with fail
  refine (flows_nil _).mono ?_
  rintro e w' ⟨rfl, rfl⟩
  go_wp2_with fail
  refine (fixed_true _).mono ?_
  rintro e w' ⟨rfl, hb⟩
  go_wp2_with fail
  refine (locked_nil _).mono ?_
  rintro e w' ⟨rfl, rfl⟩
  go_wp2_with fail
  go_ret
  exact ⟨rfl, ((Below.refl _ _).alloc (Nat.le_refl _) _).trans (hb.mono (by simp))⟩
end Led
end Go.Proofs.Ytmelkbainjfkeaa
