/- Merged of Evz Ewa. Own work. -/
import Derived.Test.YtcgpdijpppcbiaaDoorP17
import Derived.Test.YtcgpdijpppcbiaaDoorP25
namespace Go.Proofs.YtcgpdijpppcbiaaDoor
open Go.RowKit
set_option linter.unusedVariables false
namespace Ir
open Kc
def bodyL (c : Nat) : Sf := .cons 1 1 1 0 (.cons 27 1 .nil (.cons 26 c .nil .nil)) 0 0 .nil .nil .nil (.cons 1 0 2 0 (.cons 27 0 .nil (.cons 26 1 .nil .nil)) 0 0 .nil .nil .nil .nil)
def stmL (n c : Nat) : Sf := .cons 1 0 26 n .nil 0 0 .nil .nil .nil (.cons 4 0 27 0 .nil 0 0 .nil (bodyL c) .nil (.cons 5 0 27 1 .nil 0 0 .nil .nil .nil .nil))
def p4 (n c : Nat) : List Fn := [⟨0, 2, stmL n c⟩]
theorem right4 (n c : Nat) : right (p4 n c) = true := by rfl
def Rs.more (s : Rs) (k : Nat) : Rs := { s with used := s.used + k }
theorem val_const (p : List Fn) (G d n : Nat) (L : Nat → Nat) (s : Rs) (h : s.used < s.fuel) : (sem p ap G (d + 1)).val 26 n .nil L s = some (n, true, s.up) := by
  show stepVal p ap (sem p ap G d) 26 n .nil L s = _
  unfold stepVal
  rw [if_pos h]
  rfl
theorem val_loc (p : List Fn) (G d n : Nat) (hn : n < 24) (L : Nat → Nat) (s : Rs) (h : s.used < s.fuel) : (sem p ap G (d + 1)).val 27 n .nil L s = some (L n, true, s.up) := by
  show stepVal p ap (sem p ap G d) 27 n .nil L s = _
  unfold stepVal
  rw [if_pos h]
  show stepOp p ap (sem p ap G d) 27 n 0 _ L s.up = _
  unfold stepOp
  rw [if_neg (by decide), if_pos rfl, if_pos hn]
theorem val_op (p : List Fn) (G d k i c : Nat) (hk : 1 ≤ k ∧ k ≤ 25) (hi : i < 24) (L : Nat → Nat) (s : Rs) (h : s.used + 2 < s.fuel) : (sem p ap G (d + 2)).val k 0 (.cons 27 i .nil (.cons 26 c .nil .nil)) L s = some (ap k (L i) c 0, true, s.more 3) := by
  show stepVal p ap (sem p ap G (d + 1)) k 0 _ L s = _
  unfold stepVal
  rw [if_pos (by omega)]
  have e : evArgs (sem p ap G (d + 1)).val (.cons 27 i .nil (.cons 26 c .nil .nil)) 0 (fun _ => 0) L s.up = some (upd (upd (fun _ => 0) 0 (L i)) 1 c, true, s.more 3) := by
    unfold evArgs
    rw [if_pos (by decide), val_loc p G d i hi L s.up (by show s.used + 1 < s.fuel; omega)]
    dsimp only
    unfold evArgs
    rw [if_pos (by decide), val_const p G d c L s.up.up (by show s.used + 1 + 1 < s.fuel; omega)]
    rfl
  rw [e]
  dsimp only
  show stepOp p ap (sem p ap G (d + 1)) k 0 2 _ L (s.more 3) = _
  unfold stepOp
  rw [if_neg (by omega), if_neg (by omega), if_neg (by omega), if_neg (by omega), if_pos (by omega)]
  rfl
theorem body_step (p : List Fn) (G d c : Nat) (L : Nat → Nat) (v : Nat) (s : Rs) (h : s.used + 8 ≤ s.fuel) : (sem p ap G (d + 3)).lst (bodyL c) L v s = some (0, upd (upd L 1 (ap 1 (L 1) c 0)) 0 (ap 2 (L 0) 1 0), v, s.more 8) := by
  show evL (sem p ap G (d + 2)) G (bodyL c) L v s = _
  unfold bodyL evL stepSt
  rw [if_neg (by decide), if_pos (by omega)]
  have e1 := val_op p G d 1 1 c (by decide) (by decide) L s.up (by show s.used + 1 + 2 < s.fuel; omega)
  rw [show ((1 : Nat) : Int) = 1 from rfl] at e1
  rw [e1]
  dsimp only
  unfold stepKind
  rw [if_pos rfl, if_pos (by decide)]
  dsimp only
  rw [if_pos rfl]
  unfold evL stepSt
  rw [if_neg (by decide), if_pos (by show s.used + 1 + 3 < s.fuel; omega)]
  have e2 := val_op p G d 2 0 1 (by decide) (by decide) (upd L 1 (ap 1 (L 1) c 0)) (s.up.more 3).up (by show s.used + 1 + 3 + 1 + 2 < s.fuel; omega)
  rw [show ((2 : Nat) : Int) = 2 from rfl] at e2
  show (match (match (sem p ap G (d + 2)).val 2 0 (.cons 27 0 .nil (.cons 26 1 .nil .nil)) (upd L 1 (ap 1 (L 1) c 0)) (s.up.more 3).up with
    | none => none
    | some (_, false, s1) => some (2, upd L 1 (ap 1 (L 1) c 0), v, s1)
    | some (a, true, s1) => stepKind (sem p ap G (d + 2)) 1 0 0 0 .nil .nil .nil a (upd L 1 (ap 1 (L 1) c 0)) v s1) with
    | none => none
    | some (way, L', v', s') => if way = 0 then evL (sem p ap G (d + 2)) G .nil L' v' s' else some (way, L', v', s')) = _
  rw [e2]
  rfl
theorem loopL (p : List Fn) (G d c : Nat) (v : Nat) : ∀ (k g : Nat) (L : Nat → Nat) (s : Rs), k < g → L 0 = k → k < 200 → L 1 < 18446744073709551616 → s.used + 10 * k + 2 ≤ s.fuel →
    ∃ L', wh (sem p ap G (d + 3)) 27 0 .nil (bodyL c) g L v s = some (0, L', v, s.more (10 * k + 2)) ∧ L' 1 = (L 1 + k * c) % 18446744073709551616
  | k, 0, _, _, h, _, _, _, _ => by omega
  | 0, g + 1, L, s, _, h0, _, h1, hf => by
    refine ⟨L, ?_, by rw [Nat.zero_mul, Nat.add_zero, Nat.mod_eq_of_lt h1]⟩
    unfold wh
    rw [if_pos (by omega), val_loc p G (d + 2) 0 (by decide) L s.up (by show s.used + 1 < s.fuel; omega), h0]
    rfl
  | k + 1, g + 1, L, s, hg, h0, hk, h1, hf => by
    unfold wh
    rw [if_pos (by omega), val_loc p G (d + 2) 0 (by decide) L s.up (by show s.used + 1 < s.fuel; omega), h0]
    dsimp only
    rw [if_neg (by omega), body_step p G d c L v s.up.up (by show s.used + 1 + 1 + 8 ≤ s.fuel; omega)]
    dsimp only
    rw [if_pos rfl]
    have ea : ap 1 (L 1) c 0 = (L 1 + c) % 18446744073709551616 := by unfold ap; rw [if_pos rfl]
    have eb : ap 2 (L 0) 1 0 = k := by unfold ap; rw [if_neg (by decide), if_pos rfl, h0]; omega
    obtain ⟨L', hw, hL⟩ := loopL p G d c v k g (upd (upd L 1 (ap 1 (L 1) c 0)) 0 (ap 2 (L 0) 1 0)) (s.up.up.more 8) (by omega) (by show (if 0 = 0 then ap 2 (L 0) 1 0 else _) = k; rw [if_pos rfl]; exact eb) (by omega) (by show (if 1 = 0 then _ else if 1 = 1 then ap 1 (L 1) c 0 else _) < _; rw [if_neg (by decide), if_pos rfl, ea]; omega) (by show s.used + 1 + 1 + 8 + 10 * k + 2 ≤ s.fuel; omega)
    refine ⟨L', ?_, ?_⟩
    · rw [hw]
      have : (s.up.up.more 8).more (10 * k + 2) = s.more (10 * (k + 1) + 2) := by
        unfold Rs.more Rs.up
        simp
        omega
      rw [this]
    · rw [hL]
      have e1 : upd (upd L 1 (ap 1 (L 1) c 0)) 0 (ap 2 (L 0) 1 0) 1 = (L 1 + c) % 18446744073709551616 := by
        show (if 1 = 0 then _ else if 1 = 1 then ap 1 (L 1) c 0 else _) = _
        rw [if_neg (by decide), if_pos rfl, ea]
      rw [e1, Nat.mod_add_mod, Nat.succ_mul, show L 1 + c + k * c = L 1 + (k * c + c) by omega]
theorem run4 (n c : Nat) (hn : n < 200) (hc : c < 18446744073709551616) : ∃ s', stepCall (p4 n c) (sem (p4 n c) ap 201 6) 0 0 (fun _ => 0) (s0 100000) = some (n * c % 18446744073709551616, true, s') ∧ s'.dry = false ∧ s'.used = 10 * n + 6 := by
  obtain ⟨L', hw, hL⟩ := loopL (p4 n c) 201 2 c 0 n 201 (upd (fun i => if i < 0 then 0 else 0) 0 n) ((s0 100000).more 2) (by omega) (by show (if 0 = 0 then n else _) = n; rw [if_pos rfl]) hn (by show (if 1 = 0 then n else if 1 < 0 then 0 else 0) < _; rw [if_neg (by decide)]; decide) (by show 0 + 2 + 10 * n + 2 ≤ 100000; omega)
  have hl : (sem (p4 n c) ap 201 6).lst (stmL n c) (fun i => if i < 0 then 0 else 0) 0 (s0 100000) = some (1, L', L' 1, (((s0 100000).more 2).more (10 * n + 2)).more 2) := by
    show evL (sem (p4 n c) ap 201 5) 201 (stmL n c) _ 0 (s0 100000) = _
    unfold stmL evL stepSt
    rw [if_neg (by decide), if_pos (by show 0 < 100000; decide), val_const (p4 n c) 201 4 n _ _ (by show 0 + 1 < 100000; decide)]
    dsimp only
    unfold stepKind
    rw [if_pos rfl, if_pos (by decide)]
    dsimp only
    rw [if_pos rfl]
    unfold evL stepSt
    rw [if_pos rfl]
    show (match wh (sem (p4 n c) ap 201 5) 27 0 .nil (bodyL c) 201 (upd (fun i => if i < 0 then 0 else 0) 0 n) 0 ((s0 100000).more 2) with
      | none => none
      | some (way, L', v', s') => if way = 0 then evL (sem (p4 n c) ap 201 5) 201 (.cons 5 0 27 1 .nil 0 0 .nil .nil .nil .nil) L' v' s' else some (way, L', v', s')) = _
    rw [hw]
    dsimp only
    rw [if_pos rfl]
    unfold evL stepSt
    rw [if_neg (by decide), if_pos (by show 0 + 2 + (10 * n + 2) < 100000; omega), val_loc (p4 n c) 201 4 1 (by decide) _ _ (by show 0 + 2 + (10 * n + 2) + 1 < 100000; omega)]
    rfl
  refine ⟨(((s0 100000).more 2).more (10 * n + 2)).more 2, ?_, rfl, by show 0 + 2 + (10 * n + 2) + 2 = 10 * n + 6; omega⟩
  show (match (sem (p4 n c) ap 201 6).lst (stmL n c) (fun i => if i < 0 then 0 else 0) 0 (s0 100000) with
    | none => none
    | some (way, _, v, s') => if way = 2 then some (0, false, s') else some (v, true, s')) = _
  rw [hl]
  dsimp only
  rw [if_neg (by decide), hL]
  have e : upd (fun i => if i < 0 then 0 else 0) 0 n 1 = 0 := by
    show (if 1 = 0 then n else if 1 < 0 then 0 else 0) = 0
    rw [if_neg (by decide)]
    decide
  rw [e, Nat.zero_add]
end Ir
end Go.Proofs.YtcgpdijpppcbiaaDoor
namespace Go.Proofs.YtcgpdijpppcbiaaDoor
open Go.RowKit
set_option linter.unusedVariables false
set_option linter.unusedSimpArgs false
namespace Ir
open Kc
set_option maxHeartbeats 4000000 in
set_option maxRecDepth 100000 in
/-- eval: a program with much fuel that comes to its end. -/
theorem evalL (w : World) (ht : Laid.KTab w) (pa : Option Addr) (pn pc : Nat) (x u : Nat) (Q : Nat → World → Prop)
    (hE : ∀ y sb, Kept (fun _ => False) w y → Calls Tryd.prog 12 #[.slice pa pn pc, .slice none 0 0, .pointer (some ⟨sb, 0, none⟩), .int .i64 100000] y fun e w' => ∃ g c, e = .returned (.tuple #[.agg #[.int .u64 x, .slice (some ⟨g, 0, none⟩) 2048 c, .int .i64 u], .nilIface]) ∧ Q g w' ∧ Kept (fun _ => False) y w')
    (hQ : ∀ g y y', Q g y → Kept (fun k => k = w.heap.size) y y' → y.heap[w.heap.size]? = some (.cells zR 36 (0, 0)) → Q g y') :
    Calls Tryd.prog 9 #[.slice pa pn pc, .slice none 0 0] w fun e w' => ∃ g c, e = .returned (.tuple #[.agg #[.int .u64 x, .slice (some ⟨g, 0, none⟩) 2048 c, .int .i64 u], .nilIface]) ∧ Q g w' ∧ Kept (fun _ => False) w w' := by
  have hk0 := kept_alloc9 w (.cells zR 36)
  have HRZ := Lib.hid (heap_alloc_last w (.cells zR 36))
  have HST := Lib.hid (stores9 _ (ktab_kept ht hk0))
  have HK0 := Lib.hid hk0
  have HE := Lib.hid hE
  have HQ := Lib.hid hQ
  clear hk0 ht hE hQ
  go_enter Tryd.func9, Tryd.ntmps9
  go_upto_region 1 with (fail)
  generalize w.alloc (.cells zR 36) = y0 at *
  generalize hq8 : w.heap.size = q8 at HRZ
  have HQ8 := Lib.hid hq8
  clear hq8
  go_upto_region 2 with (go_at_call 11; (with_reducible refine HST.out.mono ?_); rintro e y1 ⟨sb, rb, he, hk⟩; obtain rfl : e = _ := he; have HK1 := Lib.hid (HK0.out.trans hk fun _ _ h => h); have HR1 := Lib.hid ((hk.block q8 (Array.getElem?_eq_some_iff.1 HRZ.out).1 id).trans HRZ.out); clear hk HST)
  have HEV := Lib.hid (HE.out y1 sb HK1.out)
  go_wp2_with (first
    | (go_at_call 12; (with_reducible refine HEV.out.mono ?_); rintro e y2 ⟨g, c, he, hq, hk⟩; obtain rfl : e = _ := he; have HK2 := Lib.hid (HK1.out.trans hk fun _ _ h => h); have HR2 := Lib.hid ((hk.block q8 (Array.getElem?_eq_some_iff.1 HR1.out).1 id).trans HR1.out); have HQ2 := Lib.hid hq; clear hk hq HEV)
    | ((with_reducible refine wpList_store_row (P := Tryd.prog) (w := y2) ?_ 36 (.tmp 4) (.tmp 16) ?_ q8 #[.int .u64 x, .slice (some ⟨g, 0, none⟩) 2048 c, .int .i64 u] ?_ ?_ 36 zR HR2.out infRes rfl (by simp [Value.oneCell']) ?_); (· exact rfl); (· exact rfl); (· exact rfl); (· exact rfl)))
  have hrow := setRow_heap y2 q8 zR #[.int .u64 x, .slice (some ⟨g, 0, none⟩) 2048 c, .int .i64 u] 36 (0, 0) HR2.out
  have hkr : Kept (fun k => k = q8) y2 (y2.setRow q8 #[.int .u64 x, .slice (some ⟨g, 0, none⟩) 2048 c, .int .i64 u]) := ⟨by simp, by simp, by simp, by simp, fun k hk hn => setRow_other y2 q8 k _ hn⟩
  exact bodyPost_ret (Kc.results_cell_tmp rfl _ _ q8 36 _ (0, 0) _ rfl hrow undRes rfl infRes .nilIface rfl) rfl ⟨g, c, rfl, HQ.out g y2 _ HQ2.out (by rw [HQ8.out]; exact hkr) (by rw [HQ8.out]; exact HR2.out), HK2.out.trans hkr fun k hk e => by have := HQ8.out; omega⟩
theorem eval4 (N C : Nat) (hN : N < 200) (hC : C < 18446744073709551616) (w : World) (pv : Value) (ht : Laid.KTab w) (hp : SlP w (fun _ => True) pv (p4 N C)) : Calls Tryd.prog 9 #[pv, .slice none 0 0] w fun e w' => ∃ g c, e = .returned (.tuple #[.agg #[.int .u64 (N * C % 18446744073709551616 : Nat), .slice (some ⟨g, 0, none⟩) 2048 c, .int .i64 (10 * N + 6 : Nat)], .nilIface]) ∧ Kept (fun _ => False) w w' := by
  obtain ⟨s', hs, hd, hu⟩ := run4 N C hN hC
  have hp2 := hp
  obtain ⟨pa, pc, rfl, _, _⟩ := hp2
  refine (evalL w ht pa _ pc (N * C % 18446744073709551616) (10 * N + 6) (fun _ _ => True) (fun y sb hk => ?_) (fun _ _ _ h _ _ => h)).mono ?_
  · refine (eval_ok 201 6 (p4 N C) (right4 N C) y _ sb (hp.kept hk fun _ _ => id) 100000 (by decide) _ s' hs hd).mono ?_
    rintro e w' ⟨g, c, he, hc, hk2⟩
    rw [hu] at he
    exact ⟨g, c, he, trivial, hk2⟩
  · rintro e w' ⟨g, c, he, _, hk⟩
    exact ⟨g, c, he, hk⟩
set_option maxHeartbeats 8000000 in
set_option maxRecDepth 100000 in
theorem irLoops_walk (n v : Int) {w : World} (w0 : (Lit.int .u64 n).wf = true) (w1 : (Lit.int .u64 v).wf = true) (ht : Laid.KTab w) : Calls Tryd.prog 3 #[.int .u64 n, .int .u64 v] w fun e w' => e = .returned (.bool true) ∧ Below w.heap.size w w' := by
  have hv1 : v ≤ 18446744073709551615 := (of_decide_eq_true (Bool.and_eq_true_iff.1 w1).2)
  obtain ⟨n0, rfl⟩ : ∃ n0 : Nat, n = n0 := ⟨n.toNat, by have h := (of_decide_eq_true (Bool.and_eq_true_iff.1 w0).1 : 0 ≤ n); omega⟩
  obtain ⟨C, rfl⟩ : ∃ C : Nat, v = C := ⟨v.toNat, by have h := (of_decide_eq_true (Bool.and_eq_true_iff.1 w1).1 : 0 ≤ v); omega⟩
  have hC : C < 18446744073709551616 := by omega
  obtain ⟨N, hN, hNl⟩ : ∃ N : Nat, N = n0 % 200 ∧ N < 200 := ⟨n0 % 200, rfl, Nat.mod_lt _ (by decide)⟩
  obtain ⟨X, hX⟩ : ∃ X, N * C % 18446744073709551616 = X := ⟨_, rfl⟩
  obtain ⟨U, hU⟩ : ∃ U, 10 * N + 6 = U := ⟨_, rfl⟩
  have hEV := eval4 N C hNl hC
  rw [hX, hU] at hEV
  have HEV := Lib.hid hEV
  have HN := Lib.hid (And.intro hN (And.intro hNl (And.intro hX hU)))
  have HN2 : Hid (N < 18446744073709551616) := Lib.hid (by omega)
  have HC := Lib.hid hC
  have HT := Lib.hid ht
  have HA := Lib.hid (Ac.start w)
  clear hEV hN hNl hX hU hC ht w0 w1 hv1
  go_enter Tryd.func3, Tryd.ntmps3
  go_upto_region 2 with (fail)
  have hn : (n0 : Int) % 200 = (N : Int) := by have := HN.out.1; omega
  rw [hn]
  clear hn
  go_upto_region 3 with (first
  | (go_at_call 6; (with_reducible refine (constant_walk N _).mono ?_); rintro e y ⟨he, hk⟩; obtain rfl : e = _ := he; have HA := Lib.hid (HA.out.next hk); clear hk)
  | (go_at_call 6; (with_reducible refine (constant_walk C _).mono ?_); rintro e y ⟨he, hk⟩; obtain rfl : e = _ := he; have HA := Lib.hid (HA.out.next hk); clear hk)
  | (go_at_call 6; (with_reducible refine (cst1 _).mono ?_); rintro e y ⟨he, hk⟩; obtain rfl : e = _ := he; have HA := Lib.hid (HA.out.next hk); clear hk)
  | (go_at_call 7; (with_reducible refine (lcl0 _).mono ?_); rintro e y ⟨he, hk⟩; obtain rfl : e = _ := he; have HA := Lib.hid (HA.out.next hk); clear hk)
  | (go_at_call 7; (with_reducible refine (lcl1 _).mono ?_); rintro e y ⟨he, hk⟩; obtain rfl : e = _ := he; have HA := Lib.hid (HA.out.next hk); clear hk)
  | (go_at_call 8; (with_reducible refine (op9_walk 1 _ _ _ _).mono ?_); rintro e y ⟨he, hk⟩; obtain rfl : e = _ := he; have HA := Lib.hid (HA.out.next hk); clear hk)
  | (go_at_call 8; (with_reducible refine (op9_walk 2 _ _ _ _).mono ?_); rintro e y ⟨he, hk⟩; obtain rfl : e = _ := he; have HA := Lib.hid (HA.out.next hk); clear hk)
  | ((with_reducible refine wpList_buildTwo (P := Tryd.prog) (w := y) ?_ 23 (.tmp 14) (.tmp 16) ?_ (.agg #[.int .i64 27, .int .u64 1, .slice none 0 0]) (.agg #[.int .i64 26, .int .u64 C, .slice none 0 0]) (.slice (some ⟨y.heap.size, 0, none⟩) 2 2) ?_ ?_ (y.alloc (.cells #[.int .i64 27, .int .u64 1, .slice none 0 0, .int .i64 26, .int .u64 C, .slice none 0 0] 25)) (buildX2 _ _ _ _ _ _ y) ?_); (· exact rfl); (· exact rfl); (· exact rfl); (· exact rfl); have HA := Lib.hid (HA.out.addE (kept_alloc9 y _) (show SlE (y.alloc (.cells #[.int .i64 27, .int .u64 1, .slice none 0 0, .int .i64 26, .int .u64 C, .slice none 0 0] 25)) (fun _ => True) (.slice (some ⟨y.heap.size, 0, none⟩) 2 2) (.cons 27 1 .nil (.cons 26 C .nil .nil)) from ex2 (D := fun _ => True) slEn slEn trivial (by decide) HC.out)); generalize y.heap.size = b17 at *; generalize y.alloc (.cells #[.int .i64 27, .int .u64 1, .slice none 0 0, .int .i64 26, .int .u64 C, .slice none 0 0] 25) = y at *)
  | ((with_reducible refine wpList_buildTwo (P := Tryd.prog) (w := y) ?_ 23 (.tmp 20) (.tmp 21) ?_ (.agg #[.int .i64 27, .int .u64 0, .slice none 0 0]) (.agg #[.int .i64 26, .int .u64 1, .slice none 0 0]) (.slice (some ⟨y.heap.size, 0, none⟩) 2 2) ?_ ?_ (y.alloc (.cells #[.int .i64 27, .int .u64 0, .slice none 0 0, .int .i64 26, .int .u64 1, .slice none 0 0] 25)) (buildX2 _ _ _ _ _ _ y) ?_); (· exact rfl); (· exact rfl); (· exact rfl); (· exact rfl); have HA := Lib.hid (HA.out.addE (kept_alloc9 y _) (show SlE (y.alloc (.cells #[.int .i64 27, .int .u64 0, .slice none 0 0, .int .i64 26, .int .u64 1, .slice none 0 0] 25)) (fun _ => True) (.slice (some ⟨y.heap.size, 0, none⟩) 2 2) (.cons 27 0 .nil (.cons 26 1 .nil .nil)) from ex2 (D := fun _ => True) slEn slEn trivial (by decide) (by decide))); generalize y.heap.size = b22 at *; generalize y.alloc (.cells #[.int .i64 27, .int .u64 0, .slice none 0 0, .int .i64 26, .int .u64 1, .slice none 0 0] 25) = y at *)
  | ((with_reducible refine wpList_buildTwo (P := Tryd.prog) (w := y) ?_ 27 (.tmp 19) (.tmp 24) ?_ (.agg #[.int .i64 1, .int .i64 1, .int .i64 1, .int .u64 0, .slice (some ⟨b17, 0, none⟩) 2 2, .int .i64 0, .int .u64 0, .slice none 0 0, .slice none 0 0, .slice none 0 0]) (.agg #[.int .i64 1, .int .i64 0, .int .i64 2, .int .u64 0, .slice (some ⟨b22, 0, none⟩) 2 2, .int .i64 0, .int .u64 0, .slice none 0 0, .slice none 0 0, .slice none 0 0]) (.slice (some ⟨y.heap.size, 0, none⟩) 2 2) ?_ ?_ (y.alloc (.cells #[.int .i64 1, .int .i64 1, .int .i64 1, .int .u64 0, .slice (some ⟨b17, 0, none⟩) 2 2, .int .i64 0, .int .u64 0, .slice none 0 0, .slice none 0 0, .slice none 0 0, .int .i64 1, .int .i64 0, .int .i64 2, .int .u64 0, .slice (some ⟨b22, 0, none⟩) 2 2, .int .i64 0, .int .u64 0, .slice none 0 0, .slice none 0 0, .slice none 0 0] 29)) (buildS2 _ _ _ _ _ _ _ _ _ _ _ _ _ _ _ _ _ _ _ _ y) ?_); (· exact rfl); (· exact rfl); (· exact rfl); (· exact rfl); have HA := Lib.hid (HA.out.addS (kept_alloc9 y _) (show SlS (y.alloc (.cells #[.int .i64 1, .int .i64 1, .int .i64 1, .int .u64 0, .slice (some ⟨b17, 0, none⟩) 2 2, .int .i64 0, .int .u64 0, .slice none 0 0, .slice none 0 0, .slice none 0 0, .int .i64 1, .int .i64 0, .int .i64 2, .int .u64 0, .slice (some ⟨b22, 0, none⟩) 2 2, .int .i64 0, .int .u64 0, .slice none 0 0, .slice none 0 0, .slice none 0 0] 29)) (fun _ => True) (.slice (some ⟨y.heap.size, 0, none⟩) 2 2) (bodyL C) from sx2 (D := fun _ => True) trivial HA.out.at2 slEn slS0 slS0 (by decide) (by decide) HA.out.at1 slEn slS0 slS0 (by decide) (by decide))); generalize y.heap.size = b25 at *; generalize y.alloc (.cells #[.int .i64 1, .int .i64 1, .int .i64 1, .int .u64 0, .slice (some ⟨b17, 0, none⟩) 2 2, .int .i64 0, .int .u64 0, .slice none 0 0, .slice none 0 0, .slice none 0 0, .int .i64 1, .int .i64 0, .int .i64 2, .int .u64 0, .slice (some ⟨b22, 0, none⟩) 2 2, .int .i64 0, .int .u64 0, .slice none 0 0, .slice none 0 0, .slice none 0 0] 29) = y at *)
  | ((with_reducible refine wpList_buildThree (P := Tryd.prog) (w := y) ?_ 27 (.tmp 12) (.tmp 26) (.tmp 28) ?_ (.agg #[.int .i64 1, .int .i64 0, .int .i64 26, .int .u64 N, .slice none 0 0, .int .i64 0, .int .u64 0, .slice none 0 0, .slice none 0 0, .slice none 0 0]) (.agg #[.int .i64 4, .int .i64 0, .int .i64 27, .int .u64 0, .slice none 0 0, .int .i64 0, .int .u64 0, .slice none 0 0, .slice (some ⟨b25, 0, none⟩) 2 2, .slice none 0 0]) (.agg #[.int .i64 5, .int .i64 0, .int .i64 27, .int .u64 1, .slice none 0 0, .int .i64 0, .int .u64 0, .slice none 0 0, .slice none 0 0, .slice none 0 0]) (.slice (some ⟨y.heap.size, 0, none⟩) 3 3) ?_ ?_ ?_ (y.alloc (.cells #[.int .i64 1, .int .i64 0, .int .i64 26, .int .u64 N, .slice none 0 0, .int .i64 0, .int .u64 0, .slice none 0 0, .slice none 0 0, .slice none 0 0, .int .i64 4, .int .i64 0, .int .i64 27, .int .u64 0, .slice none 0 0, .int .i64 0, .int .u64 0, .slice none 0 0, .slice (some ⟨b25, 0, none⟩) 2 2, .slice none 0 0, .int .i64 5, .int .i64 0, .int .i64 27, .int .u64 1, .slice none 0 0, .int .i64 0, .int .u64 0, .slice none 0 0, .slice none 0 0, .slice none 0 0] 29)) (buildS3 _ _ _ _ _ _ _ _ _ _ _ _ _ _ _ _ _ _ _ _ _ _ _ _ _ _ _ _ _ _ y) ?_); (· exact rfl); (· exact rfl); (· exact rfl); (· exact rfl); (· exact rfl); have HA := Lib.hid (HA.out.addS (kept_alloc9 y _) (show SlS (y.alloc (.cells #[.int .i64 1, .int .i64 0, .int .i64 26, .int .u64 N, .slice none 0 0, .int .i64 0, .int .u64 0, .slice none 0 0, .slice none 0 0, .slice none 0 0, .int .i64 4, .int .i64 0, .int .i64 27, .int .u64 0, .slice none 0 0, .int .i64 0, .int .u64 0, .slice none 0 0, .slice (some ⟨b25, 0, none⟩) 2 2, .slice none 0 0, .int .i64 5, .int .i64 0, .int .i64 27, .int .u64 1, .slice none 0 0, .int .i64 0, .int .u64 0, .slice none 0 0, .slice none 0 0, .slice none 0 0] 29)) (fun _ => True) (.slice (some ⟨y.heap.size, 0, none⟩) 3 3) (stmL N C) from sx3 (D := fun _ => True) trivial slEn slEn slS0 slS0 HN2.out (by decide) slEn slEn HA.out.st1 slS0 (by decide) (by decide) slEn slEn slS0 slS0 (by decide) (by decide))); generalize y.heap.size = b29 at *; generalize y.alloc (.cells #[.int .i64 1, .int .i64 0, .int .i64 26, .int .u64 N, .slice none 0 0, .int .i64 0, .int .u64 0, .slice none 0 0, .slice none 0 0, .slice none 0 0, .int .i64 4, .int .i64 0, .int .i64 27, .int .u64 0, .slice none 0 0, .int .i64 0, .int .u64 0, .slice none 0 0, .slice (some ⟨b25, 0, none⟩) 2 2, .slice none 0 0, .int .i64 5, .int .i64 0, .int .i64 27, .int .u64 1, .slice none 0 0, .int .i64 0, .int .u64 0, .slice none 0 0, .slice none 0 0, .slice none 0 0] 29) = y at *)
  | ((with_reducible refine wpList_build1 (P := Tryd.prog) (w := y) ?_ 33 (.tmp 30) ?_ (.agg #[.int .i64 0, .int .i64 2, .slice (some ⟨b29, 0, none⟩) 3 3]) (.slice (some ⟨y.heap.size, 0, none⟩) 1 1) ?_ (y.alloc (.cells #[.int .i64 0, .int .i64 2, .slice (some ⟨b29, 0, none⟩) 3 3] 32)) (buildF1 _ _ _ y) ?_); (· exact rfl); (· exact rfl); (· exact rfl); have HA := Lib.hid (HA.out.addF (kept_alloc9 y _) (show SlP (y.alloc (.cells #[.int .i64 0, .int .i64 2, .slice (some ⟨b29, 0, none⟩) 3 3] 32)) (fun _ => True) (.slice (some ⟨y.heap.size, 0, none⟩) 1 1) (p4 N C) from fx1 HA.out.st1)); generalize y.heap.size = b31 at *; generalize y.alloc (.cells #[.int .i64 0, .int .i64 2, .slice (some ⟨b29, 0, none⟩) 3 3] 32) = y at *))
  go_upto_region 4 with (first
  | (go_at_call 9; (with_reducible refine (HEV.out _ _ (ktab_kept HT.out HA.out.kp) HA.out.pr1).mono ?_); rintro e y ⟨g1, c1, he, hk⟩; obtain rfl : e = _ := he; have HA := Lib.hid (HA.out.next hk); clear hk)
  | ((with_reducible refine wpList_store_row (P := Tryd.prog) (w := y.alloc (.cells zR 36)) ?_ 36 (.tmp 6) (.tmp 35) ?_ y.heap.size #[.int .u64 X, .slice (some ⟨g1, 0, none⟩) 2048 c1, .int .i64 U] ?_ ?_ 36 zR (heap_alloc_last y _) infRes rfl (by simp [Value.oneCell']) ?_); (· exact rfl); (· exact rfl); (· exact rfl); (· exact rfl); rw [World.setRow_alloc_new]; simp only [Act.put]; have HA := Lib.hid (HA.out.addR (.int .u64 X) (.slice (some ⟨g1, 0, none⟩) 2048 c1) (.int .i64 U) 36); generalize y.heap.size = b6 at *; generalize y.alloc (.cells #[.int .u64 X, .slice (some ⟨g1, 0, none⟩) 2048 c1, .int .i64 U] 36) = y at *))
  have hX : IntKind.u64.wrap ((N : Int) * (C : Int)) = (X : Int) := by
    have h := HN.out.2.2.1
    have e : IntKind.u64.wrap ((N : Int) * (C : Int)) = ((N : Int) * (C : Int)) % 18446744073709551616 := by simp [IntKind.wrap, IntKind.bits, IntKind.signed]
    have e2 : (N : Int) * (C : Int) = ((N * C : Nat) : Int) := by simp
    rw [e, ← h, e2]
    generalize N * C = z
    omega
  have h54 : wrap64 (N : Int) = (N : Int) := by have := HN.out.2.1; unfold wrap64; omega
  obtain ⟨A9, hA9, hA9l⟩ : ∃ A : Nat, wrap64 ((N : Int) * 10) = (A : Int) ∧ A = 10 * N := ⟨10 * N, by have := HN.out.2.1; unfold wrap64; omega, rfl⟩
  obtain ⟨B9, hB9, hB9l⟩ : ∃ A : Nat, wrap64 (2 + (A9 : Int)) = (A : Int) ∧ A = 10 * N + 2 := ⟨10 * N + 2, by have := HN.out.2.1; unfold wrap64; omega, rfl⟩
  obtain ⟨D9, hD9, hD9l⟩ : ∃ A : Nat, wrap64 ((B9 : Int) + 2) = (A : Int) ∧ A = 10 * N + 4 := ⟨10 * N + 4, by have := HN.out.2.1; unfold wrap64; omega, rfl⟩
  have hE9 : wrap64 ((D9 : Int) + 2) = (U : Int) := by have := HN.out.2.1; have := HN.out.2.2.2; unfold wrap64; omega
  clear hA9l hB9l hD9l
  go_wp2_with (first
  | (go_at_call 10; (with_reducible refine (fixed12_walk _ (ktab_kept HT.out HA.out.kp)).mono ?_); rintro e y ⟨he, hk⟩; obtain rfl : e = _ := he; have HA := Lib.hid (HA.out.next hk); have k60 : y.cell? ⟨b6, 0, none⟩ = some (.int .u64 X) := HA.out.c (b6, 0, .int .u64 X) (by simp); have k62 : y.cell? ⟨b6, 2, none⟩ = some (.int .i64 U) := HA.out.c (b6, 2, .int .i64 U) (by simp); clear hk))
  exact bodyPost_ret (v := .bool true) (by simp [results, Tryd.results3, go_sem]) rfl ⟨rfl, HA.out.kp.below (Nat.le_refl _) fun _ _ h => h.elim⟩
end Ir
end Go.Proofs.YtcgpdijpppcbiaaDoor
