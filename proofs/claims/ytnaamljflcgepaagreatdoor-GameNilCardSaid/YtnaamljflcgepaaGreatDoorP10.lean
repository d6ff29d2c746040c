/- Merged of Qh Qi Oz. Own work. -/
import Derived.Test.YtnaamljflcgepaaGreatDoorP07
import Derived.Test.YtnaamljflcgepaaGreatDoorP09
import Derived.Test.YtnaamljflcgepaaGreatDoorP06
namespace Go.Proofs.YtnaamljflcgepaaGreatDoor
open Go.RowKit
set_option linter.unusedVariables false
set_option linter.unusedSimpArgs false
namespace Gm
open Kc Mk Ev
def richL (v : Int) : Nat → LedS
  | 0 => LedS.init
  | n + 1 => ((richL v n).payIn n v).2
def richE (v : Int) : Nat → List Ev
  | 0 => []
  | n + 1 => richE v n ++ [⟨1, n, 0, v⟩]
theorem richE_len (v : Int) : ∀ n, (richE v n).length = n
  | 0 => rfl
  | n + 1 => by simp [richE, richE_len v n]
theorem rich_pay (v : Int) (n : Nat) (hn : n < 8) (h1 : v ≤ 1000) (hp : (richL v n).pin = n * v) (h0 : 0 ≤ v) : (richL v n).payIn n v = (0, (richL v (n + 1))) ∧ (richL v (n + 1)).pin = (n + 1 : Nat) * v ∧ (richL v (n + 1)).bonds = (richL v n).bonds ∧ (richL v (n + 1)).locked = (richL v n).locked ∧ (richL v (n + 1)).pout = (richL v n).pout ∧ (richL v (n + 1)).bal = LedS.put (richL v n).bal n ((richL v n).bal n + v) := by
  have hb : (n : Int) * v ≤ 7 * v := Int.mul_le_mul_of_nonneg_right (by omega) h0
  have e : (richL v n).payIn n v = (0, { richL v n with bal := LedS.put (richL v n).bal n ((richL v n).bal n + v), pin := (richL v n).pin + v }) := by
    unfold LedS.payIn
    rw [if_neg (by omega), if_neg (by rw [hp]; omega)]
    simp
  have e2 : richL v (n + 1) = { richL v n with bal := LedS.put (richL v n).bal n ((richL v n).bal n + v), pin := (richL v n).pin + v } := by
    show ((richL v n).payIn n v).2 = _
    rw [e]
  refine ⟨by rw [e, e2], ?_, by rw [e2], by rw [e2], by rw [e2], by rw [e2]⟩
  rw [e2]
  show (richL v n).pin + v = _
  rw [hp]
  push_cast
  rw [Int.add_mul]; omega
theorem rich_is (v : Int) (h0 : 0 ≤ v) (h1 : v ≤ 1000) : ∀ n, n ≤ 8 → (richL v n).pin = n * v ∧ Rel (richL v n) (richE v n) ∧ (richL v n).Ok ∧ (richL v n).bonds = [] ∧ (richL v n).locked = 0 ∧ (richL v n).pout = 0 ∧ (∀ i, i < 8 → (richL v n).bal i = if i < n then v else 0)
  | 0, _ => ⟨by simp [richL, LedS.init], rel_init, LedS.init_ok, rfl, rfl, rfl, fun i _ => by simp [richL, LedS.init]⟩
  | n + 1, hn => by
    obtain ⟨a, b, c, d, e, f, g⟩ := rich_is v h0 h1 n (by omega)
    obtain ⟨p1, p2, p3, p4, p5, p6⟩ := rich_pay v n (by omega) h1 a h0
    have hd := rel_do b c ⟨1, n, 0, v⟩ (show (1 : Int) ≤ 1 by decide) (show (1 : Int) ≤ 4 by decide) h0
    have e1 : doL (richL v n) ⟨1, n, 0, v⟩ = richL v (n + 1) := rfl
    have e2 : doE (richL v n) ⟨1, n, 0, v⟩ (richE v n) = richE v (n + 1) := by
      unfold doE
      rw [if_pos (show doN (richL v n) ⟨1, n, 0, v⟩ = 0 from by show ((richL v n).payIn n v).1 = 0; rw [p1])]
      rfl
    rw [e1, e2] at hd
    refine ⟨p2, hd.1, hd.2, p3.trans d, p4.trans e, p5.trans f, fun i hi => ?_⟩
    rw [p6]
    unfold LedS.put
    split
    · rename_i h; subst h; rw [g _ hi, if_neg (by omega), if_pos (by omega)]; omega
    · rename_i h
      rw [g i hi]
      by_cases hh : i < n
      · rw [if_pos hh, if_pos (by omega)]
      · rw [if_neg hh, if_neg (by omega)]
set_option maxHeartbeats 2000000 in
set_option maxRecDepth 100000 in
theorem rich_walk (w : World) (v : Int) (h0 : 0 ≤ v) (h1 : v ≤ 1000) :
    Calls Tryz.prog 25 #[.int .u64 v] w fun e w' => ∃ b tb, e = .returned (.tuple #[.pointer (some ⟨b, 0, none⟩), .pointer (some ⟨tb, 0, none⟩)]) ∧ Pl0 w b tb (richL v 8) (richE v 8) w' := by
  have HV := Lib.hid (And.intro h0 h1)
  have HN := Lib.hid (fun y : World => Led.new_at y)
  clear h0 h1
  go_enter Tryz.func25, Tryz.ntmps25
  go_upto_region 2 with (go_at_call 41; (with_reducible refine (HN.out _).mono ?_); rintro e y1 ⟨b, he, hl, hb, hle, ho⟩; obtain rfl : e = _ := he; have H1 := Lib.hid (Pl0.start hl hb hle ho 121); clear hl hb hle ho HN)
  generalize y1.alloc (.cells #[.slice none 0 0] 121) = y2 at *
  generalize y1.heap.size = tb at *
  go_upto_region 5 with (fail)
  go_loopw [6, 13] (fun _ i y => ∃ n : Nat, n ≤ 8 ∧ i = .int .i64 n ∧ Hid (Pl0 w b tb (richL v n) (richE v n) y)) (fun _ i _ => 8 - (intOf i).toNat)
  case atStart => exact ⟨0, by decide, rfl, H1⟩
  case round =>
    obtain ⟨n, hn, rfl, hp⟩ := hrel
    clear H1
    by_cases hlt : (n : Int) < (8 : Int)
    · have hi := rich_is v HV.out.1 HV.out.2 n hn
      have hpay := rich_pay v n (by omega) HV.out.2 hi.1 HV.out.1
      have HJ : Hid (n < 8) := Lib.hid (by omega)
      have HP := Lib.hid (Led.payIn_to b n v wr (richL v n) (richL v (n + 1)) 0 .nilIface hp.out.led HV.out.1 hpay.1 rfl)
      have HD := Lib.hid (fun (y : World) (hy : Pl0 w b tb (richL v (n + 1)) (richE v n) y) => do_is tb ⟨1, n, 0, v⟩ (richL v n) (richE v n) y hy.ref hi.2.1 hi.2.2.1 (by rw [richE_len]; omega) (show (1 : Int) ≤ 1 by decide) (show (1 : Int) ≤ 4 by decide) HV.out.1 (by have := HV.out.2; show v ≤ _; omega))
      have e2 : doE (richL v n) ⟨1, n, 0, v⟩ (richE v n) = richE v (n + 1) := by
        unfold doE
        rw [if_pos (show doN (richL v n) ⟨1, n, 0, v⟩ = 0 from by show ((richL v n).payIn n v).1 = 0; rw [hpay.1])]
        rfl
      rw [e2] at HD
      clear hi hpay e2 hn
      go_wp2_with (first
        | (go_at_call 42; (with_reducible refine HP.out.mono ?_); rintro e y3 ⟨he, hl, hm⟩; obtain rfl : e = _ := he; have H3 := Lib.hid (hp.out.led_step hl hm); clear hl hm)
        | (go_at_call 43; (with_reducible refine (HD.out _ H3.out).mono ?_); rintro e y4 ⟨he, hr, hm⟩; obtain rfl : e = _ := he; have H4 := Lib.hid (H3.out.ref_step hr hm); clear hr hm))
      go_roundw
      case rel => exact ⟨n + 1, HJ.out, congrArg (Value.int .i64) (by omega), H4⟩
      case measure => show 8 - ((n : Int) + 1).toNat < 8 - (n : Int).toNat; have := HJ.out; omega
    · have e8 : n = 8 := by omega
      subst e8
      go_wp2_with (fail)
      exact bodyPost_ret (v := .tuple #[.pointer (some ⟨b, 0, none⟩), .pointer (some ⟨tb, 0, none⟩)]) (by simp [results, Tryz.results25, go_sem]) rfl ⟨b, tb, rfl, hp.out⟩
end Gm
end Go.Proofs.YtnaamljflcgepaaGreatDoor
namespace Go.Proofs.YtnaamljflcgepaaGreatDoor
open Go.RowKit
set_option linter.unusedVariables false
set_option linter.unusedSimpArgs false
namespace Gm
open Kc Mk
/-- A game and its ledger. -/
structure IsGame (w : World) (q a c : Nat) (G : GmS) (L : LedS) : Prop where
  gm : IsGm w q a c G
  led : IsLed w G.b L
  sep : ∀ k, OwnL w G.b k → k ≠ q ∧ k ≠ a
theorem IsGame.below {w w' : World} {q a c : Nat} {G : GmS} {L : LedS} (h : IsGame w q a c G L) (hb : Below w.heap.size w w') : IsGame w' q a c G L :=
  ⟨h.gm.below hb, Led.is_below h.led hb, fun k hk => h.sep k (own_below h.led hb hk)⟩
/-- In the midst of move: the game, boxes of the claim's number and of the value. -/
structure Mv (W : World) (q a c : Nat) (G : GmS) (L : LedS) (q8 q10 : Nat) (cl : Int) (v : Hx) (y : World) : Prop where
  below : Below W.heap.size W y
  game : IsGame y q a c G L
  c8 : y.cell? ⟨q8, 0, none⟩ = some (.int .i64 cl)
  t10 : IsTab y q10 29 32 fun i => bv (v i)
  b8 : W.heap.size ≤ q8
  b10 : W.heap.size ≤ q10
theorem Mv.next {W y z : World} {q a c : Nat} {G : GmS} {L : LedS} {q8 q10 : Nat} {cl : Int} {v : Hx} (h : Mv W q a c G L q8 q10 cl v y) (hb : Below y.heap.size y z) : Mv W q a c G L q8 q10 cl v z :=
  ⟨bl h.below hb, h.game.below hb, keep1 hb h.c8, IsTab.below h.t10 hb, h.b8, h.b10⟩
theorem Mv.start {w : World} {q a c : Nat} {G : GmS} {L : LedS} (h : IsGame w q a c G L) (cl : Int) (v : Hx) (va : Array Value) (hv : (tab 32 fun i => bv (v i)) = va) : Mv w q a c G L w.heap.size (w.heap.size + 1) cl v ((w.alloc (.cells #[.int .i64 cl] 3)).alloc (.cells va 29)) := by
  have hb : Below w.heap.size w ((w.alloc (.cells #[.int .i64 cl] 3)).alloc (.cells va 29)) := bl (bal _ _) (bal _ _)
  refine ⟨hb, h.below hb, by simp, ?_, Nat.le_refl _, Nat.le_succ _⟩
  have := IsTab.new (w.alloc (.cells #[.int .i64 cl] 3)) 29 32 fun i => bv (v i)
  rw [← hv]
  simpa using this
set_option maxHeartbeats 8000000 in
set_option maxRecDepth 100000 in
theorem move_tgt (w : World) (q a c i : Nat) (G : GmS) (L : LedS) (df : Bool) (v : Hx) (p bd now : Int) (h : IsGame w q a c G L) (ok : GOk G) (hi : i < G.cs.length) (hr : G.cs[i].resolved = false) (ht : G.tgt G.cs[i] df = (0, 0, 45)) :
    Calls Tryz.prog 16 #[.pointer (some ⟨q, 0, none⟩), .int .i64 i, .bool df, dv v, .int .i64 p, .int .u64 bd, .int .u64 now] w fun e w' => e = .returned (.tuple #[.int .i64 0, .iface 55 (.int .i64 45)]) ∧ Below w.heap.size w w' := by
  have HF := Lib.hid (fun (y : World) (hy : IsGm y q a c G) => find_ok y q a c i G hy hi ok.len)
  have HTG := Lib.hid (fun (y : World) (hy : IsGm y q a c G) => target_walk y q a c i G df hy ok hi)
  have HCL := Lib.hid (fun (y : World) (hy : IsGm y q a c G) (k : Nat) (hk : k < 42) => hy.cl hi hk)
  obtain ⟨x, hx⟩ : ∃ x, G.cs[i] = x := ⟨_, rfl⟩
  rw [hx] at HTG HCL
  rw [hx] at hr ht
  rw [ht, show tgtV (0, 0, 45) = .tuple #[.int .u64 0, .int .i64 0, .iface 55 (.int .i64 45)] from rfl] at HTG
  clear hx ht ok
  obtain ⟨va, hva⟩ : ∃ va, (tab 32 fun i => bv (v i)) = va := ⟨_, rfl⟩
  have H0 := Lib.hid (Mv.start h (i : Int) v va hva)
  rw [show dv v = .agg va from by unfold dv; rw [hva]]
  have HVA := Lib.hid hva
  have HGW := Lib.hid h
  clear hva h hi
  go_enter Tryz.func16, Tryz.ntmps16
  go_upto_region 1 with (fail)
  generalize (w.alloc (.cells #[.int .i64 i] 3)).alloc (.cells va 29) = y0 at *
  obtain ⟨q8, hq8⟩ : ∃ q8, w.heap.size = q8 := ⟨_, rfl⟩
  have HQ8 := Lib.hid hq8
  obtain ⟨q10, hq10⟩ : ∃ q10, q8 + 1 = q10 := ⟨_, rfl⟩
  have HQ10 := Lib.hid hq10
  rw [hq8, hq10] at H0
  rw [hq8, hq10]
  clear hq8 hq10
  have c8 := H0.out.c8
  go_upto_region 4 with (go_at_call 17; (with_reducible refine (HF.out _ H0.out.game.gm).mono ?_); rintro e y1 ⟨he, hy⟩; obtain rfl : e = _ := he; have H1 : Hid (Mv w q a c G L q8 q10 i v y1) := Lib.hid (H0.out.next hy.below); clear hy HF)
  clear c8 H0
  have kr : y1.cell? ⟨a, i * 42 + 39, none⟩ = some (.bool x.resolved) := HCL.out y1 H1.out.game.gm 39 (by decide)
  rw [hr] at kr
  clear hr
  go_upto_region 7 with (go_at_call 27; (with_reducible refine (HTG.out _ H1.out.game.gm).mono ?_); rintro e y2 ⟨he, hy⟩; obtain rfl : e = _ := he; have H2 : Hid (Mv w q a c G L q8 q10 i v y2) := Lib.hid (H1.out.next hy.below); clear hy HTG)
  clear kr H1
  have HB := Lib.hid (bl H2.out.below (bal y2 (.cells #[.int .u64 0] 22)))
  go_wp2_with (fail)
  exact bodyPost_ret (v := .tuple #[.int .i64 0, .iface 55 (.int .i64 45)]) (by simp [results, Tryz.results16, go_sem]) rfl ⟨rfl, HB.out⟩
end Gm
end Go.Proofs.YtnaamljflcgepaaGreatDoor
namespace Go.Proofs.YtnaamljflcgepaaGreatDoor
open Go.RowKit
set_option linter.unusedVariables false
section
variable {P : Program} {ops : Array Oper} {Q : Exit → Act → World → Prop} {S T : World → Prop} {z : Nat}
def wpAnyZ (P : Program) (ops : Array Oper) (Q : Exit → Act → World → Prop) (S : World → Prop) (z : Nat) : Nat → Array Bool → Act → World → Prop
  | 0, listed, a, w => Region.ready .any ops listed = [] ∧ Q .normal a w
  | fuel + 1, listed, a, w =>
    (Region.ready .any ops listed = [] → Q .normal a w) ∧
    ∀ i ∈ Region.ready .any ops listed, wpOp P ops Q i (fun a' w' => ((listed.setIfInBounds i true).getD z true = false → S w') ∧ wpAnyZ P ops Q S z fuel (listed.setIfInBounds i true) a' w') a w
theorem wpAny_of_Z : ∀ (fuel : Nat) (listed : Array Bool) (a : Act) (w : World), wpAnyZ P ops Q S z fuel listed a w → wpAny P .any ops Q fuel listed a w
  | 0, _, _, _, h => h
  | fuel + 1, _, _, _, h => ⟨h.1, fun i hi => wpOp_mono (fun a' w' h' => wpAny_of_Z fuel _ a' w' h'.2) (h.2 i hi)⟩
theorem getD_set_ne' {l : Array Bool} {i j : Nat} (h : i ≠ j) : (l.setIfInBounds i true).getD j true = l.getD j true := getD_set_ne true h
theorem wpAnyZ_first {i : Nat} {oi : Oper} {v : Value} (J : Array Bool → Prop) (hi : ops[i]? = some oi) (hsel : ∀ (j : Nat) (o : Oper) cs b, ops[j]? = some o → o.op ≠ .select cs b) (hiz : i ≠ z)
    (hQ : ∀ c a w, Q (.panic c) (a.put oi.dst v) w → Q (.panic c) a w)
    (hJ : ∀ listed j, J listed → i ∈ Region.ready .any ops listed → j ∈ Region.ready .any ops listed → j ≠ i → J (listed.setIfInBounds j true))
    (hST : ∀ listed w, J listed → (listed.getD z true = false → S w) → T w) :
    ∀ (fuel : Nat) (listed : Array Bool) (a : Act) (w : World), J listed →
      (∀ j oj, ops[j]? = some oj → j ≠ i → listed.getD j true = false → (∀ e ∈ oj.after, Region.binds .any e = true → e.on ≠ i) → oi.apart ops oj = true) →
      i ∈ Region.ready .any ops listed → YieldsIf P ops T oi v a → (listed.getD z true = false → S w) →
      wpAnyZ P ops Q S z fuel (listed.setIfInBounds i true) (a.put oi.dst v) w → wpAnyZ P ops Q S z (fuel + 1) listed a w := by
  intro fuel
  induction fuel with
  | zero =>
    intro listed a w hJ0 _ hr hy hS H
    refine ⟨fun h => (by rw [h] at hr; cases hr), fun j hj => ?_⟩
    by_cases hji : j = i
    · subst hji; exact hy.wpOp hi (hST _ _ hJ0 hS) ⟨fun h => hS (by rw [getD_set_ne' hiz] at h; exact h), H⟩
    · have := ready_mono hj hji
      rw [H.1] at this
      cases this
  | succ fuel ih =>
    intro listed a w hJ0 hfree hr hy hS H
    refine ⟨fun h => (by rw [h] at hr; cases hr), fun j hj => ?_⟩
    by_cases hji : j = i
    · subst hji; exact hy.wpOp hi (hST _ _ hJ0 hS) ⟨fun h => hS (by rw [getD_set_ne' hiz] at h; exact h), H⟩
    · have h1 := H.2 j (ready_mono hj hji)
      obtain ⟨hjun, oj, hoj, hall⟩ := mem_ready.1 hj
      have hnot : ∀ e ∈ oj.after, Region.binds .any e = true → e.on ≠ i := fun e he hb heq => by
        have h1 := hall e he hb
        have h0 := (mem_ready.1 hr).1
        rw [heq] at h1
        rcases Nat.lt_or_ge i listed.size with h' | h'
        · simp [h'] at h0 h1; rw [h0] at h1; cases h1
        · simp [Array.getElem?_eq_none h'] at h1
      have h2 := wpOp_putIf hoj (hfree j oj hoj hji hjun hnot) (fun cs b => hsel i oi cs b hi) (fun cs b => hsel j oj cs b hoj) hQ hy h1
      have hfree' : ∀ k ok, ops[k]? = some ok → k ≠ i → (listed.setIfInBounds j true).getD k true = false →
          (∀ e ∈ ok.after, Region.binds .any e = true → e.on ≠ i) → oi.apart ops ok = true := fun k ok hk hki hun hno => by
        refine hfree k ok hk hki ?_ hno
        by_cases hjk : j = k
        · subst hjk; exact hjun
        · rw [getD_set_ne true hjk] at hun; exact hun
      refine wpOp_mono (fun a' w' h3 => ?_) h2
      obtain ⟨g1, g2, g3⟩ := h3
      have g2' : (listed.setIfInBounds j true).getD z true = false → S w' := fun h => g2 (by
        rw [Array.setIfInBounds_comm _ _ (Ne.symm hji), getD_set_ne' hiz]; exact h)
      refine ⟨g2', ih (listed.setIfInBounds j true) a' w' (hJ _ _ hJ0 hr hj hji) hfree' (ready_mono hr (Ne.symm hji)) g1 g2' ?_⟩
      rw [Array.setIfInBounds_comm _ _ hji]
      exact g3
inductive OZ where
  | done : OZ
  | take : Nat → OZ → OZ
  | free : Nat → OZ → OZ
  | one : Nat → OZ → OZ
def OZ.size : OZ → Nat
  | .done => 0
  | .take _ r => r.size + 1
  | .free _ r => r.size + 1
  | .one _ r => r.size + 1
def wpOz (P : Program) (ops : Array Oper) (Q : Exit → Act → World → Prop) (S : World → Prop) (z : Nat) : OZ → Act → World → Prop
  | .done, a, w => Q .normal a w
  | .take k r, a, w => ∃ o v, ops[k]? = some o ∧ YieldsIf P ops S o v a ∧ wpOz P ops Q S z r (a.put o.dst v) w
  | .free k r, a, w => ∃ o v, ops[k]? = some o ∧ YieldsIf P ops (fun _ => True) o v a ∧ wpOz P ops Q S z r (a.put o.dst v) w
  | .one k r, a, w => ∃ o, ops[k]? = some o ∧ Region.wanted o (yielded ops a.tmps) = true ∧ o.wp P a w (fun a' w' => (k ≠ z → S w') ∧ wpOz P ops Q S z r a' w') Q
theorem oz_done {a : Act} {w : World} (h : Q .normal a w) : wpOz P ops Q S z .done a w := h
theorem oz_tk {k : Nat} {r : OZ} {o : Oper} {a : Act} {w : World} (d : Option Tmp) (v : Value) (ho : ops[k]? = some o) (hd : o.dst = d) (hw : Region.wanted o (yielded ops a.tmps) = true)
    (hy : ∀ w, S w → (execOp a.eval o).run P w = .ok (.value v) w) (h : wpOz P ops Q S z r (a.put d v) w) : wpOz P ops Q S z (.take k r) a w :=
  ⟨o, v, ho, .inl ⟨hw, hy⟩, by rw [hd]; exact h⟩
theorem oz_fr {k : Nat} {r : OZ} {o : Oper} {a : Act} {w : World} (d : Option Tmp) (v : Value) (ho : ops[k]? = some o) (hd : o.dst = d) (hw : Region.wanted o (yielded ops a.tmps) = true)
    (hy : ∀ w, (execOp a.eval o).run P w = .ok (.value v) w) (h : wpOz P ops Q S z r (a.put d v) w) : wpOz P ops Q S z (.free k r) a w :=
  ⟨o, v, ho, .inl ⟨hw, fun w _ => hy w⟩, by rw [hd]; exact h⟩
theorem oz_ld {k : Nat} {r : OZ} {o : Oper} {a : Act} {w : World} (d : Option Tmp) (ty : TypeId) (x : Operand) (p v : Value) (ho : ops[k]? = some o) (hd : o.dst = d) (hw : Region.wanted o (yielded ops a.tmps) = true) (hop : o.op = .load ty x) (hx : a.eval x = p)
    (hl : ∀ w, S w → (Instr.loadAt ty p).run P w = .ok v w) (h : wpOz P ops Q S z r (a.put d v) w) : wpOz P ops Q S z (.take k r) a w :=
  oz_tk d v ho hd hw (fun w hw => by unfold execOp; simp only [hop, hx]; simp [hl w hw, Result.andThen]) h
/-- An operation that is carried out ahead of the last store. -/
theorem oz_f {k : Nat} {r : OZ} {o : Oper} {a : Act} {w : World} (ho : ops[k]? = some o) (hw : Region.wanted o (yielded ops a.tmps) = true)
    (h : ∀ K : Act → World → Prop, (∀ a' w', S w' → wpOz P ops Q S z r a' w' → K a' w') → o.wp P a w K Q) : wpOz P ops Q S z (.one k r) a w :=
  ⟨o, ho, hw, h _ fun _ _ h1 h2 => ⟨fun _ => h1, h2⟩⟩
/-- The last store. -/
theorem oz_z {r : OZ} {o : Oper} {a : Act} {w : World} (ho : ops[z]? = some o) (hw : Region.wanted o (yielded ops a.tmps) = true)
    (h : ∀ K : Act → World → Prop, (∀ a' w', wpOz P ops Q S z r a' w' → K a' w') → o.wp P a w K Q) : wpOz P ops Q S z (.one z r) a w :=
  ⟨o, ho, hw, h _ fun _ _ h2 => ⟨fun h => absurd rfl h, h2⟩⟩
def awaits (ops : Array Oper) (z k : Nat) : Bool := match ops[z]? with
  | some oz => oz.after.any fun e => Region.binds .any e && e.on == k
  | none => false
def ozB (ops : Array Oper) (z : Nat) : OZ → Array Bool → Bool
  | .done, l => (Region.ready .any ops l).isEmpty
  | .take k r, l => (k != z) && !(l.getD z true) && awaits ops z k && (Region.ready .any ops l).contains k && Region.free .any ops l k && ozB ops z r (l.setIfInBounds k true)
  | .free k r, l => (k != z) && (Region.ready .any ops l).contains k && Region.free .any ops l k && ozB ops z r (l.setIfInBounds k true)
  | .one k r, l => decide (Region.ready .any ops l = [k]) && ((k == z) || !(l.getD z true)) && ozB ops z r (l.setIfInBounds k true)
theorem not_ready {listed : Array Bool} {k : Nat} (hw : awaits ops z k = true) (hk : k ∈ Region.ready .any ops listed) : ¬ z ∈ Region.ready .any ops listed := fun hz => by
  obtain ⟨_, oz, hoz, hall⟩ := mem_ready.1 hz
  unfold awaits at hw
  rw [hoz] at hw
  obtain ⟨n, hn, he⟩ := Array.any_eq_true.1 hw
  simp only [Bool.and_eq_true, beq_iff_eq] at he
  have h1 := hall _ (Array.getElem_mem hn) he.1
  have h0 := (mem_ready.1 hk).1
  rw [he.2] at h1
  rcases Nat.lt_or_ge k listed.size with h' | h'
  · simp [h'] at h0 h1; rw [h0] at h1; cases h1
  · simp [Array.getElem?_eq_none h'] at h1
theorem oz_any (hs : Region.noSelect ops = true) (hQ : ∀ c a d v w, Q (.panic c) (a.put d v) w → Q (.panic c) a w) : ∀ (l : OZ) (listed : Array Bool) (a : Act) (w : World), (listed.getD z true = false → S w) →
    ozB ops z l listed = true → wpOz P ops Q S z l a w → wpAnyZ P ops Q S z l.size listed a w
  | .done, _, _, _, _, hB, h => ⟨by simpa [ozB] using hB, h⟩
  | .take k r, listed, a, w, hS, hB, ⟨o, v, h0, hy, h⟩ => by
    simp only [ozB, Bool.and_eq_true, bne_iff_ne, ne_eq, Bool.not_eq_true'] at hB
    obtain ⟨⟨⟨⟨⟨b1, b2⟩, b3⟩, b4⟩, b5⟩, b6⟩ := hB
    exact wpAnyZ_first (fun l => l.getD z true = false) h0 (Region.noSelect_spec hs) b1 (fun c a w => hQ c a _ _ w)
      (fun l j hl hk hj hjk => by
        have hne : j ≠ z := fun e => not_ready b3 hk (by rw [← e]; exact hj)
        rw [getD_set_ne' hne]; exact hl) (fun l w hl h => h hl) r.size listed a w b2 (Region.free_spec h0 b5) (by simpa using b4) hy hS
      (oz_any hs hQ r _ _ _ (fun h => hS b2) b6 h)
  | .free k r, listed, a, w, hS, hB, ⟨o, v, h0, hy, h⟩ => by
    simp only [ozB, Bool.and_eq_true, bne_iff_ne, ne_eq] at hB
    obtain ⟨⟨⟨b1, b4⟩, b5⟩, b6⟩ := hB
    exact wpAnyZ_first (fun l => True) h0 (Region.noSelect_spec hs) b1 (fun c a w => hQ c a _ _ w)
      (fun l j hl hk hj hjk => trivial) (fun l w hl h => trivial) r.size listed a w trivial (Region.free_spec h0 b5) (by simpa using b4) hy hS
      (oz_any hs hQ r _ _ _ (fun h => hS (by rw [getD_set_ne' b1] at h; exact h)) b6 h)
  | .one k r, listed, a, w, hS, hB, ⟨o, h0, hw, h⟩ => by
    simp only [ozB, Bool.and_eq_true, decide_eq_true_eq, Bool.or_eq_true, beq_iff_eq, Bool.not_eq_true'] at hB
    obtain ⟨⟨b1, b2⟩, b3⟩ := hB
    show wpAnyZ P ops Q S z (r.size + 1) listed a w
    refine ⟨fun hh => (by rw [b1] at hh; cases hh), fun i hi => ?_⟩
    have hik : i = k := by rw [b1] at hi; simpa using hi
    subst hik
    unfold wpOp
    simp only [h0]
    rw [if_pos hw]
    refine .inl (Oper.wp_mono (fun a' w' gg => ?_) h)
    have g1 := gg.1
    have g2 := gg.2
    have g : (listed.setIfInBounds i true).getD z true = false → S w' := fun hz => by
      refine g1 fun e => ?_
      subst e
      rcases Nat.lt_or_ge i listed.size with h' | h'
      · simp [h'] at hz
      · simp [h'] at hz
    exact ⟨g, oz_any hs hQ r _ _ _ g b3 g2⟩
theorem wp_region_oz {id : Nat} {a : Act} {w : World} {l : List Oper} (S : World → Prop) (z : Nat) (t : OZ) (hm : P.follows .mixedOrders = true) (hB : (decide (t.size = l.length) && Region.noSelect l.toArray && ozB l.toArray z t (Array.replicate l.length false)) = true) (hS : S w.drew)
    (h : wpOz P l.toArray (NoPanic Q) S z t a w.drew) : (Code.region id l.toArray true).wp P Q a w := by
  refine wp_region_noPanic ?_
  have hQ : ∀ c a d v w, NoPanic Q (.panic c) (a.put d v) w → NoPanic Q (.panic c) a w := fun _ _ _ _ _ h => h
  simp only [Bool.and_eq_true, decide_eq_true_eq] at hB
  refine wp_region_any hm (wpAny_of_Z (S := S) (z := z) _ _ _ _ ?_)
  have h1 := oz_any (P := P) (Q := NoPanic Q) (ops := l.toArray) hB.1.2 hQ t (Array.replicate l.length false) a w.drew (fun _ => hS) hB.2 h
  rw [hB.1.1] at h1
  simpa using h1
end
end Go.Proofs.YtnaamljflcgepaaGreatDoor
