/- Merged of Evm Evn. Own work. -/
import Derived.Test.YtbenjgncbpafbaaGreatDoorP09
namespace Go.Proofs.YtbenjgncbpafbaaGreatDoor
open Go.RowKit
set_option linter.unusedVariables false
set_option linter.unusedSimpArgs false
namespace Ir
open Kc
theorem args_word (op : Nat) (w : World) (h1 : 1 ≤ op) (h25 : op ≤ 25) : Calls Tryz.prog 79 #[.int .i64 op] w fun e w' => e = .returned (.tuple #[.int .i64 (argN op : Nat), .nilIface]) ∧ Kept (fun _ => False) w w' := by
  have ta : decide ((op : Int) < 1) = false := by simp; omega
  have tb : decide (25 < (op : Int)) = false := by simp; omega
  by_cases h8 : op = 8 ∨ op = 9
  · rw [show argN op = 3 by unfold argN; rw [if_pos (by omega)]]
    rcases h8 with rfl | rfl <;>
    · go_enter Tryz.func79, Tryz.ntmps79
      go_wp2_with (fail)
      exact bodyPost_ret (v := .tuple #[.int .i64 3, .nilIface]) (by simp [results, Tryz.results79, go_sem]) rfl ⟨rfl, Kept.refl _ _⟩
  by_cases h21 : op = 21 ∨ op = 25
  · rw [show argN op = 1 by unfold argN; rw [if_neg (by omega), if_pos (by omega)]]
    rcases h21 with rfl | rfl <;>
    · go_enter Tryz.func79, Tryz.ntmps79
      go_wp2_with (fail)
      exact bodyPost_ret (v := .tuple #[.int .i64 1, .nilIface]) (by simp [results, Tryz.results79, go_sem]) rfl ⟨rfl, Kept.refl _ _⟩
  rw [show argN op = 2 by unfold argN; rw [if_neg (by omega), if_neg (by omega)]]
  have t8 : ((op : Int) == 8) = false := by simp; omega
  have t9 : ((op : Int) == 9) = false := by simp; omega
  have t21 : ((op : Int) == 21) = false := by simp; omega
  have t25 : ((op : Int) == 25) = false := by simp; omega
  go_enter Tryz.func79, Tryz.ntmps79
  go_wp2_with (fail)
  exact bodyPost_ret (v := .tuple #[.int .i64 2, .nilIface]) (by simp [results, Tryz.results79, go_sem]) rfl ⟨rfl, Kept.refl _ _⟩
/-- Functions as the check leaves them. -/
def Loc (prog : List Fn) : Prop := ∀ fn ∈ prog, 0 ≤ fn.params ∧ fn.params ≤ fn.locals ∧ fn.locals ≤ 24
theorem wrapu' {z : Int} (h0 : 0 ≤ z) (h1 : z < 18446744073709551616) : IntKind.u64.wrap z = z := by
  have : IntKind.u64.wrap z = z % 18446744073709551616 := by simp [IntKind.wrap, IntKind.bits, IntKind.signed]
  rw [this]; omega
set_option maxHeartbeats 4000000 in
set_option maxRecDepth 100000 in
theorem argsOf_walk (prog : List Fn) (hloc : Loc prog) (at_ : Nat) (op : Int) (n m : Nat) (hr : rightOp prog at_ op n m = true) (w : World) (D : Nat → Prop) (pv V : Value) (hp : SlP w D pv prog) :
    Calls Tryz.prog 62 #[pv, .int .i64 at_, .agg #[.int .i64 op, .int .u64 n, V]] w fun e w' => e = .returned (.tuple #[.int .i64 m, .bool true]) ∧ Kept (fun _ => False) w w' := by
  have hk0 := kept_alloc9 w (.cells #[.int .i64 op, .int .u64 n, V] 47)
  have HB := Lib.hid (Bx.new w (.int .i64 op) (.int .u64 n) V 47)
  have hp0 := hp.kept hk0 fun _ _ => id
  obtain ⟨pa, pc, rfl, hpl, hpp⟩ := hp0
  obtain ⟨np, hnp⟩ : ∃ x, prog.length = x := ⟨_, rfl⟩
  rw [hnp] at hpl ⊢
  have HP := Lib.hid (And.intro hpl (And.intro hnp hpp))
  have HK0 := Lib.hid hk0
  clear hk0 hp hpp hpl
  clear hnp
  go_enter Tryz.func62, Tryz.ntmps62
  go_upto_region 1 with (fail)
  generalize w.alloc (.cells #[.int .i64 op, .int .u64 n, V] 47) = y0 at *
  generalize w.heap.size = q at *
  have k0 := HB.out.c0
  have k1 := HB.out.c1
  by_cases h26 : op = 26
  · subst h26
    obtain rfl : m = 0 := by simpa [rightOp] using hr
    go_wp2_with (fail)
    exact bodyPost_ret (v := .tuple #[.int .i64 0, .bool true]) (by simp [results, Tryz.results62, go_sem]) rfl ⟨rfl, HK0.out⟩
  by_cases h27 : op = 27
  · subst h27
    obtain ⟨rfl, fn, hfn, hnl⟩ : m = 0 ∧ ∃ fn, prog[at_]? = some fn ∧ (n : Int) < fn.locals := by
      simp [rightOp] at hr
      refine ⟨hr.1, ?_⟩
      cases h : prog[at_]? with
      | none => rw [h] at hr; simp at hr
      | some fn => rw [h] at hr; exact ⟨fn, rfl, by simpa using hr.2⟩
    obtain ⟨pb, po, rfl, hF⟩ : ∃ b o, pa = some ⟨b, o, none⟩ ∧ FnAt y0 D fn b (o + 3 * at_) := by
      rcases HP.out.2.2 with e | ⟨b, o, e, hF⟩
      · rw [e] at hfn; simp at hfn
      · exact ⟨b, o, e, hF at_ fn hfn⟩
    have kl : y0.cell? ⟨pb, po + at_ * 3 + 1, none⟩ = some (.int .i64 fn.locals) := by rw [Nat.mul_comm]; exact hF.2.2.1
    have hat0 : (at_ : Int) < (np : Int) := by have := (List.getElem?_eq_some_iff.1 hfn).1; have := HP.out.2.1; omega
    have hl := hloc fn (List.mem_of_getElem? hfn)
    have hwl : IntKind.u64.wrap fn.locals = fn.locals := wrapu' (by omega) (by omega)
    have tl : decide ((n : Int) < fn.locals) = true := by simpa using hnl
    clear hF hl hnl hfn hr h26
    generalize fn.locals = lc at *
    go_upto_region 5 with (fail)
    go_quiet (fail)
    rename_i nq
    go_wp2_with (fail)
    exact bodyPost_ret (v := .tuple #[.int .i64 0, .bool true]) (by simp [results, Tryz.results62, go_sem]) rfl ⟨rfl, HK0.out.drewN _⟩
  by_cases h28 : op = 28
  · subst h28
    obtain rfl : m = 1 := by simpa [rightOp] using hr
    go_wp2_with (fail)
    exact bodyPost_ret (v := .tuple #[.int .i64 1, .bool true]) (by simp [results, Tryz.results62, go_sem]) rfl ⟨rfl, HK0.out⟩
  by_cases h29 : op = 29
  · subst h29
    obtain ⟨hn, fn, hfn, hpm⟩ : at_ < n ∧ ∃ fn, prog[n]? = some fn ∧ fn.params = (m : Int) := by
      simp [rightOp] at hr
      refine ⟨hr.1, ?_⟩
      cases h : prog[n]? with
      | none => rw [h] at hr; simp at hr
      | some fn => rw [h] at hr; exact ⟨fn, rfl, by simpa using hr.2⟩
    obtain ⟨pb, po, rfl, hF⟩ : ∃ b o, pa = some ⟨b, o, none⟩ ∧ FnAt y0 D fn b (o + 3 * n) := by
      rcases HP.out.2.2 with e | ⟨b, o, e, hF⟩
      · rw [e] at hfn; simp at hfn
      · exact ⟨b, o, e, hF n fn hfn⟩
    have kl : y0.cell? ⟨pb, po + n * 3, none⟩ = some (.int .i64 m) := by rw [Nat.mul_comm, ← hpm]; exact hF.2.1
    have hnl : n < np := by have := (List.getElem?_eq_some_iff.1 hfn).1; have := HP.out.2.1; omega
    have hn0 : (n : Int) < (np : Int) := by omega
    have hwa : IntKind.u64.wrap (at_ : Int) = (at_ : Int) := wrapu' (by omega) (by have := HP.out.1; omega)
    have hwn : IntKind.u64.wrap (np : Int) = (np : Int) := wrapu' (by omega) (by have := HP.out.1; omega)
    have ta : decide ((n : Int) ≤ (at_ : Int)) = false := by simp; omega
    have tb : decide ((np : Int) ≤ (n : Int)) = false := by simp; omega
    clear hF hfn hr hpm
    go_wp2_with (fail)
    exact bodyPost_ret (v := .tuple #[.int .i64 m, .bool true]) (by simp [results, Tryz.results62, go_sem]) rfl ⟨rfl, HK0.out⟩
  obtain ⟨hop, hm⟩ : (1 ≤ op ∧ op ≤ 25) ∧ m = argN op := by simpa [rightOp, h26, h27, h28, h29] using hr
  obtain ⟨k, rfl⟩ : ∃ k : Nat, op = k := ⟨op.toNat, by omega⟩
  have t26 : ((k : Int) == 26) = false := by simp; omega
  have t27 : ((k : Int) == 27) = false := by simp; omega
  have t28 : ((k : Int) == 28) = false := by simp; omega
  have t29 : ((k : Int) == 29) = false := by simp; omega
  have t30 : ((k : Int) == 30) = false := by simp; omega
  have t31 : ((k : Int) == 31) = false := by simp; omega
  have HA := Lib.hid (args_word k y0 (by omega) (by omega))
  rw [← hm] at HA
  clear hm h26 h27 h28 h29 hop hr
  go_upto_region 16 with (go_at_call 79; (with_reducible refine HA.out.mono ?_); rintro e y7 ⟨he, hk7⟩; obtain rfl : e = _ := he; have H7 := Lib.hid (HK0.out.trans hk7 fun _ _ h => h); clear hk7 HA)
  go_quiet (fail)
  rename_i nq
  go_wp2_with (fail)
  exact bodyPost_ret (v := .tuple #[.int .i64 m, .bool true]) (by simp [results, Tryz.results62, go_sem]) rfl ⟨rfl, H7.out.drewN _⟩
/-- An expression is right, in the function at. -/
def RX (prog : List Fn) (at_ : Nat) (op : Int) (n : Nat) (kids : Ef) : Prop := ∀ (w : World) (D : Nat → Prop) (pv V : Value), SlP w D pv prog → SlE w D V kids → Calls Tryz.prog 44 #[pv, .int .i64 at_, .agg #[.int .i64 op, .int .u64 n, V]] w fun e w' => e = .returned (.bool true) ∧ Kept (fun _ => False) w w'
set_option maxHeartbeats 4000000 in
set_option maxRecDepth 100000 in
theorem rightX_walk (prog : List Fn) (hloc : Loc prog) (at_ : Nat) (op : Int) (n : Nat) (kids : Ef) (hop : rightOp prog at_ op n kids.len = true) (hall : All (RX prog at_) kids) : RX prog at_ op n kids := by
  intro w D pv V hp hK
  have hp0 := hp.kept (kept_alloc9 w (.cells #[.int .i64 op, .int .u64 n, V] 47)) fun _ _ => id
  obtain ⟨a, c, rfl, hkl, hK⟩ := hK
  obtain ⟨m, hm⟩ : ∃ m, kids.len = m := ⟨_, rfl⟩
  rw [hm] at hkl ⊢
  have hk0 := kept_alloc9 w (.cells #[.int .i64 op, .int .u64 n, .slice a m c] 47)
  have HB := Lib.hid (Bx.new w (.int .i64 op) (.int .u64 n) (.slice a m c) 47)
  have HE := Lib.hid (show kids = .nil ∨ ∃ b o, a = some ⟨b, o, none⟩ ∧ EfAt (w.alloc (.cells #[.int .i64 op, .int .u64 n, .slice a m c] 47)) D kids b o by
    rcases hK with e | ⟨b, o, e, h⟩
    · exact .inl e
    · exact .inr ⟨b, o, e, EfAt.kept hk0 (fun _ _ => id) kids b o h⟩)
  have HK0 := Lib.hid hk0
  have HM := Lib.hid (And.intro hkl hm)
  have HAL := Lib.hid hall
  have HP := Lib.hid hp
  have HAO := Lib.hid (argsOf_walk prog hloc at_ op n kids.len hop _ D pv (.slice a m c) hp0)
  rw [hm] at HAO
  clear hall hp hp0
  clear hk0 hK hkl
  clear hm
  go_enter Tryz.func44, Tryz.ntmps44
  go_upto_region 1 with (fail)
  generalize w.alloc (.cells #[.int .i64 op, .int .u64 n, .slice a m c] 47) = y0 at *
  generalize w.heap.size = q at *
  have k2 := HB.out.c2
  have HLB := Lib.hid HB.out.load
  go_upto_region 5 with (first
    | ((with_reducible refine wpList_loadE (P := Tryz.prog) (w := y0) (ty := 47) (x := .tmp 5) (p := .pointer (some ⟨q, 0, none⟩)) (v := .agg #[.int .i64 op, .int .u64 n, .slice a m c]) ?_ ?_ ?_ HLB.out ?_); (· exact rfl); (· exact rfl); (· exact rfl))
    | (go_at_call 62; (with_reducible refine HAO.out.mono ?_); rintro e y1 ⟨he, hk1⟩; obtain rfl : e = _ := he; have H1 := Lib.hid hk1; have k2 := hk1.cell id HB.out.c2; clear hk1 HAO))
  clear k2
  go_loopw [30] (fun t wr => ∃ i : Nat, t = .int .i64 i ∧ Hid (∃ y, i + y.len = m ∧ All (RX prog at_) y ∧ (y = .nil ∨ ∃ b o, a = some ⟨b, o, none⟩ ∧ EfAt wr D y b (o + i * 3)) ∧ Kept (fun _ => False) w wr)) (fun t _ => m - (intOf t).toNat)
  case atStart => exact ⟨0, rfl, Lib.hid ⟨kids, by have := HM.out.2; omega, HAL.out, by rcases HE.out with e | ⟨b, o, e, h⟩; exact .inl e; exact .inr ⟨b, o, e, by simpa using EfAt.kept H1.out (fun _ _ => id) kids b o h⟩, HK0.out.trans H1.out fun _ _ h => h⟩⟩
  case round =>
    obtain ⟨i, rfl, hp⟩ := hrel
    obtain ⟨y, hi, hall, hat, hkp⟩ := hp.out
    clear hp
    have HKP := Lib.hid hkp
    clear hkp
    cases y with
    | nil =>
      have t1 : decide (i < m) = false := by simp [Ef.len] at hi; simp; omega
      go_wp2_with (fail)
      exact bodyPost_ret (v := .bool true) (by simp [results, Tryz.results44, go_sem]) rfl ⟨rfl, HKP.out⟩
    | cons op1 n1 kd rest =>
      obtain ⟨b, o, ha, hb⟩ : ∃ b o, a = some ⟨b, o, none⟩ ∧ EfAt wr D (.cons op1 n1 kd rest) b (o + i * 3) := by
        rcases hat with h | h
        · cases h
        · exact h
      clear hat
      subst ha
      have hin : i < m := by simp [Ef.len] at hi; omega
      have t1 : decide (i < m) = true := by simp; omega
      have hi0 : (i : Int) < (m : Int) := by omega
      have HI : Hid (i + 1 + rest.len = m ∧ i < m ∧ wrap64 ((i : Int) + 1) = ((i + 1 : Nat) : Int)) := Lib.hid ⟨by simp [Ef.len] at hi; omega, hin, wrap_i (by have := HM.out.1; omega)⟩
      unfold EfAt at hb
      obtain ⟨h1, h2, h3, h4, ⟨a1, c1, h5, h6, h7⟩, h8⟩ := hb
      have hk1 := kept_alloc9 wr (.cells #[.int .i64 op1, .int .u64 n1, .slice a1 kd.len c1] 47)
      have HLE := Lib.hid (loadX h3 h4 h5)
      have HL2 := Lib.hid (Bx.new wr (.int .i64 op1) (.int .u64 n1) (.slice a1 kd.len c1) 47).load
      have HE5 := Lib.hid (EfAt.kept hk1 (fun _ _ => id) rest b (o + i * 3 + 3) h8)
      have HS5 := SlE.kept hk1 (fun _ _ => id) (show SlE wr D (.slice a1 kd.len c1) kd from ⟨a1, c1, rfl, h6, h7⟩)
      have HC := Lib.hid (hall.1 _ D pv _ (HP.out.kept (HKP.out.trans hk1 fun _ _ h => h) fun _ _ => id) HS5)
      have HG9 : Hid ((Tryz.prog.info? 47).map (·.size) = some (#[.int .i64 op1, .int .u64 n1, .slice a1 kd.len c1] : Array Value).size ∧ zX.size = (#[.int .i64 op1, .int .u64 n1, .slice a1 kd.len c1] : Array Value).size ∧ (#[.int .i64 op1, .int .u64 n1, .slice a1 kd.len c1] : Array Value).all (·.oneCell') = true) := Lib.hid ⟨infX, rfl, by simp [Value.oneCell']⟩
      have HR := Lib.hid hall
      have HK5 := Lib.hid (HKP.out.trans hk1 fun _ _ h => h)
      clear h1 h2 h3 h4 h5 h6 h7 h8 hk1 hi hin hall HKP HS5
      generalize (#[.int .i64 op1, .int .u64 n1, .slice a1 kd.len c1] : Array Value) = ag at *
      go_upto_region 7 with (first
        | ((with_reducible refine wpList_loadE (P := Tryz.prog) (w := wr) (ty := 47) (x := .tmp 32) (p := .pointer (some ⟨b, o + i * 3, none⟩)) (v := .agg ag) ?_ ?_ ?_ HLE.out ?_); (· exact rfl); (· exact rfl); (· exact rfl))
        | ((with_reducible refine wpList_store_row (P := Tryz.prog) (w := wr.alloc (.cells zX 47)) ?_ 47 (.tmp 10) (.tmp 33) ?_ wr.heap.size ag ?_ ?_ 47 zX (heap_alloc_last wr _) HG9.out.1 HG9.out.2.1 HG9.out.2.2 ?_); (· exact rfl); (· exact rfl); (· exact rfl); (· exact rfl); rw [World.setRow_alloc_new]; simp only [Act.put]))
      clear HLE HG9
      generalize wr.alloc (.cells ag 47) = y5 at *
      generalize wr.heap.size = qa at *
      have hw1 := HI.out.2.2
      go_wp2_with (first
        | ((with_reducible refine wpList_loadE (P := Tryz.prog) (w := y5) (ty := 47) (x := .tmp 10) (p := .pointer (some ⟨qa, 0, none⟩)) (v := .agg ag) ?_ ?_ ?_ HL2.out ?_); (· exact rfl); (· exact rfl); (· exact rfl))
        | (go_at_call 44; (with_reducible refine HC.out.mono ?_); rintro e y6 ⟨he, hk6⟩; obtain rfl : e = _ := he; have HK6 := Lib.hid hk6; clear hk6 HC))
      have HE6 := Lib.hid (EfAt.kept HK6.out (fun _ _ => id) rest b (o + i * 3 + 3) HE5.out)
      go_roundw
      case rel => exact ⟨i + 1, by go_num, Lib.hid ⟨rest, HI.out.1, HR.out.2, .inr ⟨b, o, rfl, by rw [show o + (i + 1) * 3 = o + i * 3 + 3 from by omega]; exact HE6.out⟩, HK5.out.trans HK6.out fun _ _ h => h⟩⟩
      case measure => first | exact meas9 HI.out.2.1 HI.out.2.2 | exact meas9b HI.out.2.1
theorem rightX_all (prog : List Fn) (hloc : Loc prog) (at_ : Nat) : ∀ x : Ef, rightE prog at_ x = true → All (RX prog at_) x
  | .nil, _ => trivial
  | .cons op n kids rest, h => by
    unfold rightE at h
    simp only [Bool.and_eq_true] at h
    exact ⟨rightX_walk prog hloc at_ op n kids h.1.1 (rightX_all prog hloc at_ kids h.1.2), rightX_all prog hloc at_ rest h.2⟩
end Ir
end Go.Proofs.YtbenjgncbpafbaaGreatDoor
namespace Go.Proofs.YtbenjgncbpafbaaGreatDoor
open Go.RowKit
set_option linter.unusedVariables false
set_option linter.unusedSimpArgs false
namespace Ir
open Kc
/-- A slice of lists of statements. -/
def SlL (w : World) (D : Nat → Prop) (V : Value) (l : List Sf) : Prop := ∃ a c, V = .slice a l.length c ∧ l.length ≤ 2 ∧ (l = [] ∨ ∃ b o, a = some ⟨b, o, none⟩ ∧ ∀ i x, l[i]? = some x → ∃ b8 n8 c8, w.cell? ⟨b, o + i, none⟩ = some (.slice b8 n8 c8) ∧ SlS w D (.slice b8 n8 c8) x ∧ D b)
def lists (kind : Int) (body els : Sf) : List Sf := if kind = 3 then [body, els] else if kind = 4 then [body] else []
theorem SlL.kept {w w' : World} {D : Nat → Prop} {S : Nat → Prop} (hk : Kept S w w') (hn : ∀ k, D k → ¬ S k) {V : Value} {l : List Sf} (h : SlL w D V l) : SlL w' D V l := by
  obtain ⟨a, c, rfl, hl, h⟩ := h
  refine ⟨a, c, rfl, hl, ?_⟩
  rcases h with h | ⟨b, o, rfl, h⟩
  · exact .inl h
  · refine .inr ⟨b, o, rfl, fun i x hi => ?_⟩
    obtain ⟨b8, n8, c8, h1, h2, h3⟩ := h i x hi
    exact ⟨b8, n8, c8, hk.cell (hn _ h3) h1, h2.kept hk hn, h3⟩
theorem EfAt.mono {w : World} {D D' : Nat → Prop} (hd : ∀ k, D k → D' k) : ∀ (x : Ef) (b o : Nat), EfAt w D x b o → EfAt w D' x b o
  | .nil, _, _, _ => trivial
  | .cons op n kids rest, b, o, h => by
    obtain ⟨h1, h2, h3, h4, ⟨a, c, h5, hl, h6⟩, h7⟩ := h
    refine ⟨hd _ h1, h2, h3, h4, ⟨a, c, h5, hl, ?_⟩, EfAt.mono hd rest b (o + 3) h7⟩
    rcases h6 with h6 | ⟨b', o', rfl, h6⟩
    · exact .inl h6
    · exact .inr ⟨b', o', rfl, EfAt.mono hd kids b' o' h6⟩
theorem SlE.mono {w : World} {D D' : Nat → Prop} (hd : ∀ k, D k → D' k) {V : Value} {x : Ef} (h : SlE w D V x) : SlE w D' V x := by
  obtain ⟨a, c, rfl, hl, h⟩ := h
  refine ⟨a, c, rfl, hl, ?_⟩
  rcases h with h | ⟨b, o, rfl, h⟩
  · exact .inl h
  · exact .inr ⟨b, o, rfl, EfAt.mono hd x b o h⟩
theorem SfAt.mono {w : World} {D D' : Nat → Prop} (hd : ∀ k, D k → D' k) : ∀ (x : Sf) (b o : Nat), SfAt w D x b o → SfAt w D' x b o
  | .nil, _, _, _ => trivial
  | .cons kind n ao an ak bo bn bk body els rest, b, o, h => by
    obtain ⟨h1, h2, h3, h4, h5, h6, h7, ⟨V, h8, h9⟩, h10, h11, ⟨U, h12, h13⟩, ⟨a, c, h14, hl, h15⟩, ⟨a', c', h16, hl', h17⟩, h18⟩ := h
    refine ⟨hd _ h1, h2, h3, h4, h5, h6, h7, ⟨V, h8, h9.mono hd⟩, h10, h11, ⟨U, h12, h13.mono hd⟩, ⟨a, c, h14, hl, ?_⟩, ⟨a', c', h16, hl', ?_⟩, SfAt.mono hd rest b (o + 10) h18⟩
    · rcases h15 with h | ⟨b', o', rfl, h⟩
      · exact .inl h
      · exact .inr ⟨b', o', rfl, SfAt.mono hd body b' o' h⟩
    · rcases h17 with h | ⟨b', o', rfl, h⟩
      · exact .inl h
      · exact .inr ⟨b', o', rfl, SfAt.mono hd els b' o' h⟩
theorem SlS.mono {w : World} {D D' : Nat → Prop} (hd : ∀ k, D k → D' k) {V : Value} {x : Sf} (h : SlS w D V x) : SlS w D' V x := by
  obtain ⟨a, c, rfl, hl, h⟩ := h
  refine ⟨a, c, rfl, hl, ?_⟩
  rcases h with h | ⟨b, o, rfl, h⟩
  · exact .inl h
  · exact .inr ⟨b, o, rfl, SfAt.mono hd x b o h⟩
theorem SlE.of {w : World} {D : Nat → Prop} {a : Option Addr} {n c : Nat} {x : Ef} (h : SlE w D (.slice a n c) x) : x.len < 1099511627776 ∧ n = x.len ∧ (x = .nil ∨ ∃ b o, a = some ⟨b, o, none⟩ ∧ EfAt w D x b o) := by
  obtain ⟨a', c', e, hl, h⟩ := h
  injection e with e1 e2 e3
  subst e1; exact ⟨hl, e2, h⟩
theorem buildX1 (l0 l1 l2 : Value) (w : World) : (Instr.buildSlice 45 1 #[(0, .agg #[l0, l1, l2])]).run Tryz.prog w = .ok (.slice (some ⟨w.heap.size, 0, none⟩) 1 1) (w.alloc (.cells #[l0, l1, l2] 47)) := by kernel_rfl
theorem buildX2 (l0 l1 l2 m0 m1 m2 : Value) (w : World) : (Instr.buildSlice 45 2 #[(0, .agg #[l0, l1, l2]), (1, .agg #[m0, m1, m2])]).run Tryz.prog w = .ok (.slice (some ⟨w.heap.size, 0, none⟩) 2 2) (w.alloc (.cells #[l0, l1, l2, m0, m1, m2] 47)) := by kernel_rfl
theorem buildL1 (a : Option Addr) (n c : Nat) (w : World) : (Instr.buildSlice 126 1 #[(0, .slice a n c)]).run Tryz.prog w = .ok (.slice (some ⟨w.heap.size, 0, none⟩) 1 1) (w.alloc (.cells #[.slice a n c] 48)) := by kernel_rfl
theorem buildL2 (a a' : Option Addr) (n c n' c' : Nat) (w : World) : (Instr.buildSlice 126 2 #[(0, .slice a n c), (1, .slice a' n' c')]).run Tryz.prog w = .ok (.slice (some ⟨w.heap.size, 0, none⟩) 2 2) (w.alloc (.cells #[.slice a n c, .slice a' n' c'] 48)) := by kernel_rfl
section
variable {P : Program}
theorem wp_bs1 {o : Oper} {a : Act} {w w' : World} {K : Act → World → Prop} {Q : Exit → Act → World → Prop} {t : TypeId} {x : Operand} {v : Value} (ho : o.op = .buildSlice t 1 #[(0, x)]) (p : Value) (hx : a.eval x = p) (hl : (Instr.buildSlice t 1 #[(0, p)]).run P w = .ok v w') (h : K (a.put o.dst v) w') : o.wp P a w K Q := by
  unfold Oper.wp execOp
  simp only [ho, List.map_toArray, List.map_cons, List.map_nil, hx]
  simp [hl]
  exact h
theorem wp_bs2 {o : Oper} {a : Act} {w w' : World} {K : Act → World → Prop} {Q : Exit → Act → World → Prop} {t : TypeId} {x x' : Operand} {v : Value} (ho : o.op = .buildSlice t 2 #[(0, x), (1, x')]) (p : Value) (hx : a.eval x = p) (p' : Value) (hx' : a.eval x' = p') (hl : (Instr.buildSlice t 2 #[(0, p), (1, p')]).run P w = .ok v w') (h : K (a.put o.dst v) w') : o.wp P a w K Q := by
  unfold Oper.wp execOp
  simp only [ho, List.map_toArray, List.map_cons, List.map_nil, hx, hx']
  simp [hl]
  exact h
theorem og_b1 {ops : Array Oper} {Q : Exit → Act → World → Prop} {S : World → Prop} {k : Nat} {r : OG} {o : Oper} {a : Act} {w w' : World} {t : TypeId} {x : Operand} {v : Value} (d : Option Tmp) (p : Value) (ho : ops[k]? = some o) (hd : o.dst = d) (hw : Region.wanted o (yielded ops a.tmps) = true) (hop : o.op = .buildSlice t 1 #[(0, x)]) (hx : a.eval x = p) (hl : (Instr.buildSlice t 1 #[(0, p)]).run P w = .ok v w') (hS : S w') (h : wpOg P ops Q r S (a.put d v) w') : wpOg P ops Q (.one k r) S a w :=
  og_f ho hw fun K hK => wp_bs1 hop p hx hl (hK _ _ hS (by rw [hd]; exact h))
theorem og_b2 {ops : Array Oper} {Q : Exit → Act → World → Prop} {S : World → Prop} {k : Nat} {r : OG} {o : Oper} {a : Act} {w w' : World} {t : TypeId} {x x' : Operand} {v : Value} (d : Option Tmp) (p p' : Value) (ho : ops[k]? = some o) (hd : o.dst = d) (hw : Region.wanted o (yielded ops a.tmps) = true) (hop : o.op = .buildSlice t 2 #[(0, x), (1, x')]) (hx : a.eval x = p) (hx' : a.eval x' = p') (hl : (Instr.buildSlice t 2 #[(0, p), (1, p')]).run P w = .ok v w') (hS : S w') (h : wpOg P ops Q r S (a.put d v) w') : wpOg P ops Q (.one k r) S a w :=
  og_f ho hw fun K hK => wp_bs2 hop p hx p' hx' hl (hK _ _ hS (by rw [hd]; exact h))
theorem wpList_buildTwo {ops : Array Oper} {rest : List Oper} {op : Oper} {a : Act} {w : World} {Q : Exit → Act → World → Prop} (hgd : op.guard = none) (t : TypeId) (x x' : Operand) (ho : op.op = .buildSlice t 2 #[(0, x), (1, x')]) (p p' v : Value) (hx : a.eval x = p) (hx' : a.eval x' = p') (w' : World) (hl : (Instr.buildSlice t 2 #[(0, p), (1, p')]).run P w = .ok v w')
    (h : wpList P ops Q rest (a.put op.dst v) w') : wpList P ops Q (op :: rest) a w :=
  wpList_plain hgd fun _ hK => wp_bs2 ho p hx p' hx' hl (hK _ _ h)
end
theorem ex1 {y : World} {D : Nat → Prop} {ao : Int} {an nA cA : Nat} {aA : Option Addr} {ak : Ef} (h : SlE y D (.slice aA nA cA) ak) (hd : D y.heap.size) (hn : an < 18446744073709551616) : SlE (y.alloc (.cells #[.int .i64 ao, .int .u64 an, .slice aA nA cA] 47)) D (.slice (some ⟨y.heap.size, 0, none⟩) 1 1) (.cons ao an ak .nil) := by
  obtain ⟨h1, rfl, h3⟩ := h.of
  refine ⟨_, 1, rfl, by simp [Ef.len], .inr ⟨y.heap.size, 0, rfl, hd, hn, xc 0 _ rfl, xc 1 _ rfl, ⟨aA, cA, xc 2 _ rfl, h1, ?_⟩, trivial⟩⟩
  rcases h3 with g | ⟨b, o, e, g⟩
  · exact .inl g
  · exact .inr ⟨b, o, e, EfAt.kept (kept_alloc9 y _) (fun _ _ => id) _ _ _ g⟩
theorem ex2 {y : World} {D : Nat → Prop} {ao bo : Int} {an bn nA cA nB cB : Nat} {aA aB : Option Addr} {ak bk : Ef} (h : SlE y D (.slice aA nA cA) ak) (h' : SlE y D (.slice aB nB cB) bk) (hd : D y.heap.size) (hn : an < 18446744073709551616) (hn' : bn < 18446744073709551616) : SlE (y.alloc (.cells #[.int .i64 ao, .int .u64 an, .slice aA nA cA, .int .i64 bo, .int .u64 bn, .slice aB nB cB] 47)) D (.slice (some ⟨y.heap.size, 0, none⟩) 2 2) (.cons ao an ak (.cons bo bn bk .nil)) := by
  obtain ⟨h1, rfl, h3⟩ := h.of
  obtain ⟨h4, rfl, h5⟩ := h'.of
  refine ⟨_, 2, rfl, by simp [Ef.len], .inr ⟨y.heap.size, 0, rfl, hd, hn, xc 0 _ rfl, xc 1 _ rfl, ⟨aA, cA, xc 2 _ rfl, h1, ?_⟩, hd, hn', xc 3 _ rfl, xc 4 _ rfl, ⟨aB, cB, xc 5 _ rfl, h4, ?_⟩, trivial⟩⟩
  · rcases h3 with g | ⟨b, o, e, g⟩
    · exact .inl g
    · exact .inr ⟨b, o, e, EfAt.kept (kept_alloc9 y _) (fun _ _ => id) _ _ _ g⟩
  · rcases h5 with g | ⟨b, o, e, g⟩
    · exact .inl g
    · exact .inr ⟨b, o, e, EfAt.kept (kept_alloc9 y _) (fun _ _ => id) _ _ _ g⟩
theorem ll0 {y : World} {D : Nat → Prop} : SlL y D (.slice none 0 0) [] := ⟨none, 0, rfl, by simp, .inl rfl⟩
theorem ll1 {y : World} {D : Nat → Prop} {a8 : Option Addr} {n8 c8 : Nat} {body : Sf} (h : SlS y D (.slice a8 n8 c8) body) (hd : D y.heap.size) : SlL (y.alloc (.cells #[.slice a8 n8 c8] 48)) D (.slice (some ⟨y.heap.size, 0, none⟩) 1 1) [body] := by
  refine ⟨_, 1, rfl, by simp, .inr ⟨y.heap.size, 0, rfl, fun i x hi => ?_⟩⟩
  match i, hi with
  | 0, hi => cases hi; exact ⟨a8, n8, c8, xc 0 _ rfl, h.kept (kept_alloc9 y _) fun _ _ => id, hd⟩
  | i + 1, hi => simp at hi
theorem ll2 {y : World} {D : Nat → Prop} {a8 a9 : Option Addr} {n8 c8 n9 c9 : Nat} {body els : Sf} (h : SlS y D (.slice a8 n8 c8) body) (h' : SlS y D (.slice a9 n9 c9) els) (hd : D y.heap.size) : SlL (y.alloc (.cells #[.slice a8 n8 c8, .slice a9 n9 c9] 48)) D (.slice (some ⟨y.heap.size, 0, none⟩) 2 2) [body, els] := by
  refine ⟨_, 2, rfl, by simp, .inr ⟨y.heap.size, 0, rfl, fun i x hi => ?_⟩⟩
  match i, hi with
  | 0, hi => cases hi; exact ⟨a8, n8, c8, xc 0 _ rfl, h.kept (kept_alloc9 y _) fun _ _ => id, hd⟩
  | 1, hi => cases hi; exact ⟨a9, n9, c9, xc 1 _ rfl, h'.kept (kept_alloc9 y _) fun _ _ => id, hd⟩
  | i + 2, hi => simp at hi
set_option maxHeartbeats 4000000 in
set_option maxRecDepth 100000 in
theorem parts_walk (kind n ao : Int) (an : Nat) (ak : Ef) (bo : Int) (bn : Nat) (bk : Ef) (body els : Sf) (hkind : 1 ≤ kind ∧ kind ≤ 7) (w : World) (D : Nat → Prop) (aA aB a8 a9 : Option Addr) (nA cA nB cB n8 c8 n9 c9 : Nat)
    (hA : SlE w D (.slice aA nA cA) ak) (hB : SlE w D (.slice aB nB cB) bk) (h8 : SlS w D (.slice a8 n8 c8) body) (h9 : SlS w D (.slice a9 n9 c9) els) (han : an < 18446744073709551616) (hbn : bn < 18446744073709551616) (DD : Nat → Prop) (hDD : ∀ k, D k → DD k) (hDN : ∀ k, w.heap.size ≤ k → DD k) :
    Calls Tryz.prog 41 #[.agg #[.int .i64 kind, .int .i64 n, .int .i64 ao, .int .u64 an, .slice aA nA cA, .int .i64 bo, .int .u64 bn, .slice aB nB cB, .slice a8 n8 c8, .slice a9 n9 c9]] w fun e w' => ∃ a1 m1 c1 a2 m2 c2, e = .returned (.tuple #[.slice a1 m1 c1, .slice a2 m2 c2]) ∧ SlE w' DD (.slice a1 m1 c1) (exprs kind ao an ak bo bn bk) ∧ SlL w' DD (.slice a2 m2 c2) (lists kind body els) ∧ Kept (fun _ => False) w w' := by
  have hk0 := kept_alloc9 w (.cells #[.int .i64 kind, .int .i64 n, .int .i64 ao, .int .u64 an, .slice aA nA cA, .int .i64 bo, .int .u64 bn, .slice aB nB cB, .slice a8 n8 c8, .slice a9 n9 c9] 50)
  have HB := Lib.hid (Bt10.new w (.int .i64 kind) (.int .i64 n) (.int .i64 ao) (.int .u64 an) (.slice aA nA cA) (.int .i64 bo) (.int .u64 bn) (.slice aB nB cB) (.slice a8 n8 c8) (.slice a9 n9 c9) 50)
  have HX := Lib.hid (And.intro ((hA.kept hk0 fun _ _ => id).mono hDD) (And.intro ((hB.kept hk0 fun _ _ => id).mono hDD) (And.intro ((h8.kept hk0 fun _ _ => id).mono hDD) (And.intro ((h9.kept hk0 fun _ _ => id).mono hDD) (And.intro han hbn)))))
  have HD : Hid (∀ k, (w.alloc (.cells #[.int .i64 kind, .int .i64 n, .int .i64 ao, .int .u64 an, .slice aA nA cA, .int .i64 bo, .int .u64 bn, .slice aB nB cB, .slice a8 n8 c8, .slice a9 n9 c9] 50)).heap.size ≤ k → DD k) := Lib.hid (fun k h => hDN k (by have := hk0.size; omega))
  have HK0 := Lib.hid hk0
  clear hA hB h8 h9 han hbn hk0 hDD hDN
  go_enter Tryz.func41, Tryz.ntmps41
  go_upto_region 1 with (fail)
  generalize w.alloc (.cells #[.int .i64 kind, .int .i64 n, .int .i64 ao, .int .u64 an, .slice aA nA cA, .int .i64 bo, .int .u64 bn, .slice aB nB cB, .slice a8 n8 c8, .slice a9 n9 c9] 50) = y0 at *
  generalize w.heap.size = q at *
  have HLA := Lib.hid HB.out.loadA
  have HLB := Lib.hid HB.out.loadB
  have kk := HB.out.c0
  have k8 := HB.out.c8
  have k9 := HB.out.c9
  by_cases h1 : kind = 1
  · subst h1
    go_wp2_with (first
      | ((with_reducible refine wpList_loadE (P := Tryz.prog) (w := y0) (ty := 47) (x := .tmp 11) (p := .pointer (some ⟨q, 2, none⟩)) (v := .agg #[.int .i64 ao, .int .u64 an, .slice aA nA cA]) ?_ ?_ ?_ HLA.out ?_); (· exact rfl); (· exact rfl); (· exact rfl))
      | ((with_reducible refine wpList_build1 (P := Tryz.prog) (w := y0) ?_ 45 (.tmp 12) ?_ (.agg #[.int .i64 ao, .int .u64 an, .slice aA nA cA]) (.slice (some ⟨y0.heap.size, 0, none⟩) 1 1) ?_ (y0.alloc (.cells #[.int .i64 ao, .int .u64 an, .slice aA nA cA] 47)) (buildX1 _ _ _ y0) ?_); (· exact rfl); (· exact rfl); (· exact rfl)))
    exact bodyPost_ret (v := .tuple #[.slice (some ⟨y0.heap.size, 0, none⟩) 1 1, .slice none 0 0]) (by simp [results, Tryz.results41, go_sem]) rfl ⟨_, _, _, _, _, _, rfl, ex1 HX.out.1 (HD.out _ (Nat.le_refl _)) HX.out.2.2.2.2.1, ll0, HK0.out.trans (kept_alloc9 y0 _) fun _ _ h => h⟩
  by_cases h5 : kind = 5
  · subst h5
    go_wp2_with (first
      | ((with_reducible refine wpList_loadE (P := Tryz.prog) (w := y0) (ty := 47) (x := .tmp 11) (p := .pointer (some ⟨q, 2, none⟩)) (v := .agg #[.int .i64 ao, .int .u64 an, .slice aA nA cA]) ?_ ?_ ?_ HLA.out ?_); (· exact rfl); (· exact rfl); (· exact rfl))
      | ((with_reducible refine wpList_build1 (P := Tryz.prog) (w := y0) ?_ 45 (.tmp 12) ?_ (.agg #[.int .i64 ao, .int .u64 an, .slice aA nA cA]) (.slice (some ⟨y0.heap.size, 0, none⟩) 1 1) ?_ (y0.alloc (.cells #[.int .i64 ao, .int .u64 an, .slice aA nA cA] 47)) (buildX1 _ _ _ y0) ?_); (· exact rfl); (· exact rfl); (· exact rfl)))
    exact bodyPost_ret (v := .tuple #[.slice (some ⟨y0.heap.size, 0, none⟩) 1 1, .slice none 0 0]) (by simp [results, Tryz.results41, go_sem]) rfl ⟨_, _, _, _, _, _, rfl, ex1 HX.out.1 (HD.out _ (Nat.le_refl _)) HX.out.2.2.2.2.1, ll0, HK0.out.trans (kept_alloc9 y0 _) fun _ _ h => h⟩
  by_cases h6 : kind = 6
  · subst h6
    go_wp2_with (first
      | ((with_reducible refine wpList_loadE (P := Tryz.prog) (w := y0) (ty := 47) (x := .tmp 11) (p := .pointer (some ⟨q, 2, none⟩)) (v := .agg #[.int .i64 ao, .int .u64 an, .slice aA nA cA]) ?_ ?_ ?_ HLA.out ?_); (· exact rfl); (· exact rfl); (· exact rfl))
      | ((with_reducible refine wpList_build1 (P := Tryz.prog) (w := y0) ?_ 45 (.tmp 12) ?_ (.agg #[.int .i64 ao, .int .u64 an, .slice aA nA cA]) (.slice (some ⟨y0.heap.size, 0, none⟩) 1 1) ?_ (y0.alloc (.cells #[.int .i64 ao, .int .u64 an, .slice aA nA cA] 47)) (buildX1 _ _ _ y0) ?_); (· exact rfl); (· exact rfl); (· exact rfl)))
    exact bodyPost_ret (v := .tuple #[.slice (some ⟨y0.heap.size, 0, none⟩) 1 1, .slice none 0 0]) (by simp [results, Tryz.results41, go_sem]) rfl ⟨_, _, _, _, _, _, rfl, ex1 HX.out.1 (HD.out _ (Nat.le_refl _)) HX.out.2.2.2.2.1, ll0, HK0.out.trans (kept_alloc9 y0 _) fun _ _ h => h⟩
  by_cases h7 : kind = 7
  · subst h7
    go_wp2_with (first
      | ((with_reducible refine wpList_loadE (P := Tryz.prog) (w := y0) (ty := 47) (x := .tmp 11) (p := .pointer (some ⟨q, 2, none⟩)) (v := .agg #[.int .i64 ao, .int .u64 an, .slice aA nA cA]) ?_ ?_ ?_ HLA.out ?_); (· exact rfl); (· exact rfl); (· exact rfl))
      | ((with_reducible refine wpList_build1 (P := Tryz.prog) (w := y0) ?_ 45 (.tmp 12) ?_ (.agg #[.int .i64 ao, .int .u64 an, .slice aA nA cA]) (.slice (some ⟨y0.heap.size, 0, none⟩) 1 1) ?_ (y0.alloc (.cells #[.int .i64 ao, .int .u64 an, .slice aA nA cA] 47)) (buildX1 _ _ _ y0) ?_); (· exact rfl); (· exact rfl); (· exact rfl)))
    exact bodyPost_ret (v := .tuple #[.slice (some ⟨y0.heap.size, 0, none⟩) 1 1, .slice none 0 0]) (by simp [results, Tryz.results41, go_sem]) rfl ⟨_, _, _, _, _, _, rfl, ex1 HX.out.1 (HD.out _ (Nat.le_refl _)) HX.out.2.2.2.2.1, ll0, HK0.out.trans (kept_alloc9 y0 _) fun _ _ h => h⟩
  by_cases h2 : kind = 2
  · subst h2
    go_wp2_with (first
      | ((with_reducible refine wpList_loadE (P := Tryz.prog) (w := y0) (ty := 47) (x := .tmp 16) (p := .pointer (some ⟨q, 2, none⟩)) (v := .agg #[.int .i64 ao, .int .u64 an, .slice aA nA cA]) ?_ ?_ ?_ HLA.out ?_); (· exact rfl); (· exact rfl); (· exact rfl))
      | ((with_reducible refine wpList_loadE (P := Tryz.prog) (w := y0) (ty := 47) (x := .tmp 18) (p := .pointer (some ⟨q, 5, none⟩)) (v := .agg #[.int .i64 bo, .int .u64 bn, .slice aB nB cB]) ?_ ?_ ?_ HLB.out ?_); (· exact rfl); (· exact rfl); (· exact rfl))
      | ((with_reducible refine wpList_buildTwo (P := Tryz.prog) (w := y0) ?_ 45 (.tmp 17) (.tmp 19) ?_ (.agg #[.int .i64 ao, .int .u64 an, .slice aA nA cA]) (.agg #[.int .i64 bo, .int .u64 bn, .slice aB nB cB]) (.slice (some ⟨y0.heap.size, 0, none⟩) 2 2) ?_ ?_ (y0.alloc (.cells #[.int .i64 ao, .int .u64 an, .slice aA nA cA, .int .i64 bo, .int .u64 bn, .slice aB nB cB] 47)) (buildX2 _ _ _ _ _ _ y0) ?_); (· exact rfl); (· exact rfl); (· exact rfl); (· exact rfl)))
    exact bodyPost_ret (v := .tuple #[.slice (some ⟨y0.heap.size, 0, none⟩) 2 2, .slice none 0 0]) (by simp [results, Tryz.results41, go_sem]) rfl ⟨_, _, _, _, _, _, rfl, ex2 HX.out.1 HX.out.2.1 (HD.out _ (Nat.le_refl _)) HX.out.2.2.2.2.1 HX.out.2.2.2.2.2, ll0, HK0.out.trans (kept_alloc9 y0 _) fun _ _ h => h⟩
  by_cases h4 : kind = 4
  · subst h4
    go_upto_region 12 with (fail)
    refine wp_region_og (fun z : World => Bt10 z q (.int .i64 4) (.int .i64 n) (.int .i64 ao) (.int .u64 an) (.slice aA nA cA) (.int .i64 bo) (.int .u64 bn) (.slice aB nB cB) (.slice a8 n8 c8) (.slice a9 n9 c9)) (.take 0 (.take 1 (.take 3 (.take 4 (.two 2 (.take 6 (.one 5 (.take 7 .done))) 5 (.one 2 (.take 6 (.take 7 .done)))))))) (by kernel_rfl) (by kernel_rfl) (HB.out.kept (kept_drew9 y0) id) ?_
    have H5 := Lib.hid (HB.out.kept (kept_drew9 y0) id)
    have HX5 := Lib.hid (And.intro (HX.out.1.kept (kept_drew9 y0) fun _ _ => id) (And.intro (HX.out.2.1.kept (kept_drew9 y0) fun _ _ => id) (And.intro (HX.out.2.2.1.kept (kept_drew9 y0) fun _ _ => id) (And.intro (HX.out.2.2.2.1.kept (kept_drew9 y0) fun _ _ => id) HX.out.2.2.2.2))))
    have HD5 : Hid (∀ k, y0.drew.heap.size ≤ k → DD k) := Lib.hid HD.out
    have HK5 := Lib.hid (HK0.out.trans (kept_drew9 y0) fun _ _ h => h)
    clear kk k8 k9 HLA HLB
    generalize y0.drew = y5 at *
    refine og_tk (some 33) (.pointer (some ⟨q, 2, none⟩)) rfl rfl (by go_simp) (fun _ _ => by simp [execOp, go_sem]) ?_
    simp only [Act.put, pS]
    refine og_ld (some 34) 47 (.tmp 33) (.pointer (some ⟨q, 2, none⟩)) (.agg #[.int .i64 ao, .int .u64 an, .slice aA nA cA]) rfl rfl (by go_simp) rfl rfl (fun y hy => hy.loadA) ?_
    simp only [Act.put, pS]
    refine og_tk (some 36) (.pointer (some ⟨q, 8, none⟩)) rfl rfl (by go_simp) (fun _ _ => by simp [execOp, go_sem]) ?_
    simp only [Act.put, pS]
    refine og_ld (some 37) 48 (.tmp 36) (.pointer (some ⟨q, 8, none⟩)) (.slice a8 n8 c8) rfl rfl (by go_simp) rfl rfl (fun y hy => by have h := hy.c8; simp [Instr.loadAt, go_sem, h, Tryz.underlying48]) ?_
    simp only [Act.put, pS]
    refine og_two (og_of rfl (by go_simp) fun K hK => ?_) (og_of rfl (by go_simp) fun K hK => ?_)
    · refine wp_bs1 rfl (.agg #[.int .i64 ao, .int .u64 an, .slice aA nA cA]) rfl (buildX1 _ _ _ y5) ?_
      refine hK _ _ (H5.out.kept (kept_alloc9 y5 _) id) ?_
      clear hK K
      simp only [Act.put, pS]
      refine og_tk (some 2) (.slice (some ⟨y5.heap.size, 0, none⟩) 1 1) rfl rfl (by go_simp) (fun _ _ => by simp [execOp, go_sem]) ?_
      simp only [Act.put, pS]
      refine og_b1 (some 38) (.slice a8 n8 c8) rfl rfl (by go_simp) rfl rfl (buildL1 a8 n8 c8 (y5.alloc (.cells #[.int .i64 ao, .int .u64 an, .slice aA nA cA] 47))) ((H5.out.kept (kept_alloc9 y5 _) id).kept (kept_alloc9 _ _) id) ?_
      simp only [Act.put, pS]
      refine og_tk (some 3) (.slice (some ⟨(y5.alloc (.cells #[.int .i64 ao, .int .u64 an, .slice aA nA cA] 47)).heap.size, 0, none⟩) 1 1) rfl rfl (by go_simp) (fun _ _ => by simp [execOp, go_sem]) ?_
      simp only [Act.put, pS]
      refine og_done (NoPanic.normal ?_)
      go_wp2_with (fail)
      exact bodyPost_ret (v := .tuple #[.slice (some ⟨y5.heap.size, 0, none⟩) 1 1, .slice (some ⟨(y5.alloc (.cells #[.int .i64 ao, .int .u64 an, .slice aA nA cA] 47)).heap.size, 0, none⟩) 1 1]) (by simp [results, Tryz.results41, go_sem]) rfl ⟨_, _, _, _, _, _, rfl, (ex1 HX5.out.1 (HD5.out _ (Nat.le_refl _)) HX5.out.2.2.2.2.1).kept (kept_alloc9 _ _) fun _ _ => id, ll1 (HX5.out.2.2.1.kept (kept_alloc9 y5 _) fun _ _ => id) (HD5.out _ (kept_alloc9 y5 _).size), (HK5.out.trans (kept_alloc9 y5 _) fun _ _ h => h).trans (kept_alloc9 _ _) fun _ _ h => h⟩
    · refine wp_bs1 rfl (.slice a8 n8 c8) rfl (buildL1 a8 n8 c8 y5) ?_
      refine hK _ _ (H5.out.kept (kept_alloc9 y5 _) id) ?_
      clear hK K
      simp only [Act.put, pS]
      refine og_b1 (some 35) (.agg #[.int .i64 ao, .int .u64 an, .slice aA nA cA]) rfl rfl (by go_simp) rfl rfl (buildX1 _ _ _ (y5.alloc (.cells #[.slice a8 n8 c8] 48))) ((H5.out.kept (kept_alloc9 y5 _) id).kept (kept_alloc9 _ _) id) ?_
      simp only [Act.put, pS]
      refine og_tk (some 2) (.slice (some ⟨(y5.alloc (.cells #[.slice a8 n8 c8] 48)).heap.size, 0, none⟩) 1 1) rfl rfl (by go_simp) (fun _ _ => by simp [execOp, go_sem]) ?_
      simp only [Act.put, pS]
      refine og_tk (some 3) (.slice (some ⟨y5.heap.size, 0, none⟩) 1 1) rfl rfl (by go_simp) (fun _ _ => by simp [execOp, go_sem]) ?_
      simp only [Act.put, pS]
      refine og_done (NoPanic.normal ?_)
      go_wp2_with (fail)
      exact bodyPost_ret (v := .tuple #[.slice (some ⟨(y5.alloc (.cells #[.slice a8 n8 c8] 48)).heap.size, 0, none⟩) 1 1, .slice (some ⟨y5.heap.size, 0, none⟩) 1 1]) (by simp [results, Tryz.results41, go_sem]) rfl ⟨_, _, _, _, _, _, rfl, ex1 (HX5.out.1.kept (kept_alloc9 y5 _) fun _ _ => id) (HD5.out _ (kept_alloc9 y5 _).size) HX5.out.2.2.2.2.1, (ll1 HX5.out.2.2.1 (HD5.out _ (Nat.le_refl _))).kept (kept_alloc9 _ _) fun _ _ => id, (HK5.out.trans (kept_alloc9 y5 _) fun _ _ h => h).trans (kept_alloc9 _ _) fun _ _ h => h⟩
  obtain rfl : kind = 3 := by omega
  go_upto_region 10 with (fail)
  refine wp_region_og (fun z : World => Bt10 z q (.int .i64 3) (.int .i64 n) (.int .i64 ao) (.int .u64 an) (.slice aA nA cA) (.int .i64 bo) (.int .u64 bn) (.slice aB nB cB) (.slice a8 n8 c8) (.slice a9 n9 c9)) (.take 0 (.take 1 (.take 3 (.take 4 (.take 5 (.take 6 (.two 2 (.take 8 (.one 7 (.take 9 .done))) 7 (.one 2 (.take 8 (.take 9 .done)))))))))) (by kernel_rfl) (by kernel_rfl) (HB.out.kept (kept_drew9 y0) id) ?_
  have H5 := Lib.hid (HB.out.kept (kept_drew9 y0) id)
  have HX5 := Lib.hid (And.intro (HX.out.1.kept (kept_drew9 y0) fun _ _ => id) (And.intro (HX.out.2.1.kept (kept_drew9 y0) fun _ _ => id) (And.intro (HX.out.2.2.1.kept (kept_drew9 y0) fun _ _ => id) (And.intro (HX.out.2.2.2.1.kept (kept_drew9 y0) fun _ _ => id) HX.out.2.2.2.2))))
  have HD5 : Hid (∀ k, y0.drew.heap.size ≤ k → DD k) := Lib.hid HD.out
  have HK5 := Lib.hid (HK0.out.trans (kept_drew9 y0) fun _ _ h => h)
  clear kk k8 k9 HLA HLB
  generalize y0.drew = y5 at *
  refine og_tk (some 23) (.pointer (some ⟨q, 2, none⟩)) rfl rfl (by go_simp) (fun _ _ => by simp [execOp, go_sem]) ?_
  simp only [Act.put, pS]
  refine og_ld (some 24) 47 (.tmp 23) (.pointer (some ⟨q, 2, none⟩)) (.agg #[.int .i64 ao, .int .u64 an, .slice aA nA cA]) rfl rfl (by go_simp) rfl rfl (fun y hy => hy.loadA) ?_
  simp only [Act.put, pS]
  refine og_tk (some 26) (.pointer (some ⟨q, 8, none⟩)) rfl rfl (by go_simp) (fun _ _ => by simp [execOp, go_sem]) ?_
  simp only [Act.put, pS]
  refine og_ld (some 27) 48 (.tmp 26) (.pointer (some ⟨q, 8, none⟩)) (.slice a8 n8 c8) rfl rfl (by go_simp) rfl rfl (fun y hy => by have h := hy.c8; simp [Instr.loadAt, go_sem, h, Tryz.underlying48]) ?_
  simp only [Act.put, pS]
  refine og_tk (some 28) (.pointer (some ⟨q, 9, none⟩)) rfl rfl (by go_simp) (fun _ _ => by simp [execOp, go_sem]) ?_
  simp only [Act.put, pS]
  refine og_ld (some 29) 48 (.tmp 28) (.pointer (some ⟨q, 9, none⟩)) (.slice a9 n9 c9) rfl rfl (by go_simp) rfl rfl (fun y hy => by have h := hy.c9; simp [Instr.loadAt, go_sem, h, Tryz.underlying48]) ?_
  simp only [Act.put, pS]
  refine og_two (og_of rfl (by go_simp) fun K hK => ?_) (og_of rfl (by go_simp) fun K hK => ?_)
  · refine wp_bs1 rfl (.agg #[.int .i64 ao, .int .u64 an, .slice aA nA cA]) rfl (buildX1 _ _ _ y5) ?_
    refine hK _ _ (H5.out.kept (kept_alloc9 y5 _) id) ?_
    clear hK K
    simp only [Act.put, pS]
    refine og_tk (some 2) (.slice (some ⟨y5.heap.size, 0, none⟩) 1 1) rfl rfl (by go_simp) (fun _ _ => by simp [execOp, go_sem]) ?_
    simp only [Act.put, pS]
    refine og_b2 (some 30) (.slice a8 n8 c8) (.slice a9 n9 c9) rfl rfl (by go_simp) rfl rfl rfl (buildL2 a8 a9 n8 c8 n9 c9 (y5.alloc (.cells #[.int .i64 ao, .int .u64 an, .slice aA nA cA] 47))) ((H5.out.kept (kept_alloc9 y5 _) id).kept (kept_alloc9 _ _) id) ?_
    simp only [Act.put, pS]
    refine og_tk (some 3) (.slice (some ⟨(y5.alloc (.cells #[.int .i64 ao, .int .u64 an, .slice aA nA cA] 47)).heap.size, 0, none⟩) 2 2) rfl rfl (by go_simp) (fun _ _ => by simp [execOp, go_sem]) ?_
    simp only [Act.put, pS]
    refine og_done (NoPanic.normal ?_)
    go_wp2_with (fail)
    exact bodyPost_ret (v := .tuple #[.slice (some ⟨y5.heap.size, 0, none⟩) 1 1, .slice (some ⟨(y5.alloc (.cells #[.int .i64 ao, .int .u64 an, .slice aA nA cA] 47)).heap.size, 0, none⟩) 2 2]) (by simp [results, Tryz.results41, go_sem]) rfl ⟨_, _, _, _, _, _, rfl, (ex1 HX5.out.1 (HD5.out _ (Nat.le_refl _)) HX5.out.2.2.2.2.1).kept (kept_alloc9 _ _) fun _ _ => id, ll2 (HX5.out.2.2.1.kept (kept_alloc9 y5 _) fun _ _ => id) (HX5.out.2.2.2.1.kept (kept_alloc9 y5 _) fun _ _ => id) (HD5.out _ (kept_alloc9 y5 _).size), (HK5.out.trans (kept_alloc9 y5 _) fun _ _ h => h).trans (kept_alloc9 _ _) fun _ _ h => h⟩
  · refine wp_bs2 rfl (.slice a8 n8 c8) rfl (.slice a9 n9 c9) rfl (buildL2 a8 a9 n8 c8 n9 c9 y5) ?_
    refine hK _ _ (H5.out.kept (kept_alloc9 y5 _) id) ?_
    clear hK K
    simp only [Act.put, pS]
    refine og_b1 (some 25) (.agg #[.int .i64 ao, .int .u64 an, .slice aA nA cA]) rfl rfl (by go_simp) rfl rfl (buildX1 _ _ _ (y5.alloc (.cells #[.slice a8 n8 c8, .slice a9 n9 c9] 48))) ((H5.out.kept (kept_alloc9 y5 _) id).kept (kept_alloc9 _ _) id) ?_
    simp only [Act.put, pS]
    refine og_tk (some 2) (.slice (some ⟨(y5.alloc (.cells #[.slice a8 n8 c8, .slice a9 n9 c9] 48)).heap.size, 0, none⟩) 1 1) rfl rfl (by go_simp) (fun _ _ => by simp [execOp, go_sem]) ?_
    simp only [Act.put, pS]
    refine og_tk (some 3) (.slice (some ⟨y5.heap.size, 0, none⟩) 2 2) rfl rfl (by go_simp) (fun _ _ => by simp [execOp, go_sem]) ?_
    simp only [Act.put, pS]
    refine og_done (NoPanic.normal ?_)
    go_wp2_with (fail)
    exact bodyPost_ret (v := .tuple #[.slice (some ⟨(y5.alloc (.cells #[.slice a8 n8 c8, .slice a9 n9 c9] 48)).heap.size, 0, none⟩) 1 1, .slice (some ⟨y5.heap.size, 0, none⟩) 2 2]) (by simp [results, Tryz.results41, go_sem]) rfl ⟨_, _, _, _, _, _, rfl, ex1 (HX5.out.1.kept (kept_alloc9 y5 _) fun _ _ => id) (HD5.out _ (kept_alloc9 y5 _).size) HX5.out.2.2.2.2.1, (ll2 HX5.out.2.2.1 HX5.out.2.2.2.1 (HD5.out _ (Nat.le_refl _))).kept (kept_alloc9 _ _) fun _ _ => id, (HK5.out.trans (kept_alloc9 y5 _) fun _ _ h => h).trans (kept_alloc9 _ _) fun _ _ h => h⟩
end Ir
end Go.Proofs.YtbenjgncbpafbaaGreatDoor
