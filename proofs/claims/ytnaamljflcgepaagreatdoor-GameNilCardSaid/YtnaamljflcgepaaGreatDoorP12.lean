/- Merged of Zs Qk Ql Qm. Own work. -/
import Derived.Test.YtnaamljflcgepaaGreatDoorP03
import Derived.Test.YtnaamljflcgepaaGreatDoorP01
import Derived.Test.YtnaamljflcgepaaGreatDoorP05
import Derived.BigQuiet
import Derived.Deep.QuietTactic
import Derived.Test.YtnaamljflcgepaaGreatDoorP11
namespace Go.Proofs.YtnaamljflcgepaaGreatDoor
open Go.RowKit
set_option linter.unusedVariables false
set_option linter.unusedSimpArgs false
namespace Wt
open Kc
theorem ba (w : World) (o : Obj) : Below w.heap.size w (w.alloc o) := (Below.refl _ _).alloc (Nat.le_refl _) _
/-- The cell of errors.errorType. -/
def Et (w : World) : Prop := w.cell? ⟨0, 0, none⟩ = some (.iface 109 (.agg #[.pointer (some ⟨4, 25, none⟩)]))
theorem Et.next {w w' : World} (h : Et w) (hb : Below w.heap.size w w') : Et w' := keep1 hb h
set_option maxHeartbeats 4000000 in
set_option maxRecDepth 100000 in
theorem why_flt (w : World) (q p : Nat) (k : Int) (hg : Et w) (h0 : w.cell? ⟨q, 0, none⟩ = some (.int .i64 p)) (h1 : w.cell? ⟨q, 1, none⟩ = some (.iface 55 (.int .i64 k))) :
    Calls Tryz.prog 26 #[.iface 61 (.pointer (some ⟨q, 0, none⟩))] w fun e w' => e = .returned (.tuple #[.int .i64 k, .int .i64 p]) ∧ Below w.heap.size w w' := by
  have HB1 := Lib.hid (ba w (.cells #[.int .i64 0] 55))
  have HG1 := Lib.hid (hg.next HB1.out)
  have HC := Lib.hid (As.as_fault_num q k ⟨w.heap.size, 0, none⟩ (.int .i64 0) (w.alloc (.cells #[.int .i64 0] 55)) HG1.out (by simp) (by simp) (keep1 HB1.out h1))
  have H0 := Lib.hid (And.intro h0 (inHeap h0))
  have HE0 := Lib.hid hg
  clear hg h0 h1
  go_enter Tryz.func26, Tryz.ntmps26
  go_wp2_with (fail)
  refine HC.out.mono ?_
  rintro e y1 ⟨rfl, y2, rfl, hb⟩
  have HB2 := Lib.hid ((bl HB1.out hb).setCell (p := ⟨w.heap.size, 0, none⟩) (Nat.le_refl _) (.int .i64 k))
  have hz := hb.size
  simp at hz
  have c1 := keep1 (x := .int .i64 0) (o := 0) (b := w.heap.size) hb (by simp)
  have he0 := inHeap HE0.out
  have hq0 := H0.out.2
  have HY : Hid (Et (y2.setCell ⟨w.heap.size, 0, none⟩ (.int .i64 k)) ∧ (y2.setCell ⟨w.heap.size, 0, none⟩ (.int .i64 k)).cell? ⟨w.heap.size, 0, none⟩ = some (.int .i64 k) ∧ (y2.setCell ⟨w.heap.size, 0, none⟩ (.int .i64 k)).cell? ⟨q, 0, none⟩ = some (.int .i64 p)) := Lib.hid (by
    refine ⟨?_, World.cell?_setCell_same _ _ _ c1, ?_⟩
    · exact (World.cell?_setCell_other _ _ _ _ (fun e => by have h9 : w.heap.size = 0 := congrArg Addr.block e; omega)).trans (HG1.out.next hb)
    · rw [World.cell?_setCell_other _ _ _ _ (fun e => by have := congrArg Addr.block e; simp at this; omega)]
      exact keep1 hb (keep1 HB1.out H0.out.1))
  have hy2 : y2.heap.size = (y2.setCell ⟨w.heap.size, 0, none⟩ (.int .i64 k)).heap.size := (size_setCell _ _ _).symm
  clear hb c1 HC he0 hq0
  generalize y2.setCell ⟨w.heap.size, 0, none⟩ (.int .i64 k) = y3 at *
  have HD := Lib.hid (As.as_fault_fault ⟨q, 0, none⟩ ⟨y3.heap.size, 0, none⟩ (.pointer none) (y3.alloc (.cells #[.pointer none] 61)) (HY.out.1.next (ba _ _)) (by simp) (by simp))
  have HZ := Lib.hid (And.intro hz hy2)
  clear hz hy2
  go_wp2_with (fail)
  refine HD.out.mono ?_
  rintro e y4 ⟨rfl, y5, rfl, hb⟩
  have B3 := Lib.hid ((bl (HB2.out.alloc HB2.out.size (.cells #[.pointer none] 61)) hb).setCell (p := ⟨y3.heap.size, 0, none⟩) HB2.out.size (.pointer (some ⟨q, 0, none⟩)))
  have c4 := keep1 (x := .pointer none) (o := 0) (b := y3.heap.size) hb (by simp)
  have c5 := keep1 hb (keep1 (ba _ (.cells #[.pointer none] 61)) HY.out.2.1)
  have c6 := keep1 hb (keep1 (ba _ (.cells #[.pointer none] 61)) HY.out.2.2)
  have n5 := inHeap HY.out.2.1
  have n6 := inHeap HY.out.2.2
  have c7 := World.cell?_setCell_same y5 ⟨y3.heap.size, 0, none⟩ (.pointer (some ⟨q, 0, none⟩)) c4
  have c8 : (y5.setCell ⟨y3.heap.size, 0, none⟩ (.pointer (some ⟨q, 0, none⟩))).cell? ⟨w.heap.size, 0, none⟩ = some (.int .i64 k) := by
    rw [World.cell?_setCell_other _ _ _ _ (fun e => by have := congrArg Addr.block e; simp at this; omega)]; exact c5
  have c9 : (y5.setCell ⟨y3.heap.size, 0, none⟩ (.pointer (some ⟨q, 0, none⟩))).cell? ⟨q, 0, none⟩ = some (.int .i64 p) := by
    rw [World.cell?_setCell_other _ _ _ _ (fun e => by have := congrArg Addr.block e; simp at this; omega)]; exact c6
  clear hb c4 c5 c6 n5 n6 HD
  generalize y5.setCell ⟨y3.heap.size, 0, none⟩ (.pointer (some ⟨q, 0, none⟩)) = y6 at *
  go_wp2_with (fail)
  go_quiet (fail)
  go_wp2_with (fail)
  exact bodyPost_ret (v := .tuple #[.int .i64 k, .int .i64 p]) (by simp [results, Tryz.results26, go_sem]) rfl ⟨rfl, below_drewN B3.out nq⟩
end Wt
end Go.Proofs.YtnaamljflcgepaaGreatDoor
namespace Go.Proofs.YtnaamljflcgepaaGreatDoor
open Go.RowKit
set_option linter.unusedVariables false
set_option linter.unusedSimpArgs false
namespace Gm
open Kc Mk
set_option maxHeartbeats 2000000 in
set_option maxRecDepth 100000 in
theorem Move_by (w : World) (q : Nat) (cl : Int) (df : Bool) (v : Hx) (p bd now n : Int) (R : World → Prop) (hmv : ∀ y, Below w.heap.size w y → Calls Tryz.prog 16 #[.pointer (some ⟨q, 0, none⟩), .int .i64 cl, .bool df, dv v, .int .i64 p, .int .u64 bd, .int .u64 now] y fun e w' => e = .returned (.tuple #[.int .i64 n, .nilIface]) ∧ R w') :
    Calls Tryz.prog 4 #[.pointer (some ⟨q, 0, none⟩), .int .i64 cl, .bool df, dv v, .int .i64 p, .int .u64 bd, .int .u64 now] w fun e w' => e = .returned (.tuple #[.int .i64 n, .nilIface]) ∧ R w' := by
  have HMV := Lib.hid hmv
  obtain ⟨va, hva⟩ : ∃ va, (tab 32 fun i => bv (v i)) = va := ⟨_, rfl⟩
  have hdv : dv v = .agg va := by unfold dv; rw [hva]
  have H0 : Hid (Below w.heap.size w (w.alloc (.cells va 29)) ∧ (Instr.loadAt 29 (.pointer (some ⟨w.heap.size, 0, none⟩))).run Tryz.prog (w.alloc (.cells va 29)) = .ok (.agg va) (w.alloc (.cells va 29))) := Lib.hid (by
    refine ⟨bal _ _, ?_⟩
    rw [← hdv, ← hva]
    exact load32h (IsTab.new w _ 32 _)
    )
  rw [hdv] at HMV ⊢
  clear hmv hdv hva
  go_enter Tryz.func4, Tryz.ntmps4
  go_upto_region 3 with (fail)
  generalize w.alloc (.cells va 29) = y0 at *
  generalize hqq : w.heap.size = qh at *
  go_upto_region 4 with (first
    | ((with_reducible refine wpList_loadE (P := Tryz.prog) (w := y0) (ty := 29) (x := .tmp 10) (p := .pointer (some ⟨qh, 0, none⟩)) (v := .agg va) ?_ ?_ ?_ H0.out.2 ?_); (· exact rfl); (· exact rfl); (· exact rfl))
    | (go_at_call 16; (with_reducible refine (HMV.out _ H0.out.1).mono ?_); rintro e y1 ⟨he, hr⟩; obtain rfl : e = _ := he; have HR := Lib.hid hr; clear hr HMV))
  go_wp2_with (fail)
  exact bodyPost_ret (v := .tuple #[.int .i64 n, .nilIface]) (by simp [results, Tryz.results4, go_sem]) rfl ⟨rfl, HR.out⟩
/-- What a fault at a claim is. -/
def IsFlt (y w' : World) (cl n : Int) (V : Value) : Prop := ∃ f, V = .iface 61 (.pointer (some ⟨f, 0, none⟩)) ∧ y.heap.size ≤ f ∧ w'.cell? ⟨f, 0, none⟩ = some (.int .i64 cl) ∧ w'.cell? ⟨f, 1, none⟩ = some (.iface 55 (.int .i64 n))
set_option maxHeartbeats 2000000 in
set_option maxRecDepth 100000 in
theorem Move_no (w : World) (q : Nat) (cl : Int) (df : Bool) (v : Hx) (p bd now n : Int) (R : World → Prop) (hmv : ∀ y, Below w.heap.size w y → Calls Tryz.prog 16 #[.pointer (some ⟨q, 0, none⟩), .int .i64 cl, .bool df, dv v, .int .i64 p, .int .u64 bd, .int .u64 now] y fun e w' => e = .returned (.tuple #[.int .i64 0, .iface 55 (.int .i64 n)]) ∧ R w') :
    Calls Tryz.prog 4 #[.pointer (some ⟨q, 0, none⟩), .int .i64 cl, .bool df, dv v, .int .i64 p, .int .u64 bd, .int .u64 now] w fun e w' => ∃ V, e = .returned (.tuple #[.int .i64 0, V]) ∧ ∃ y, R y ∧ Below y.heap.size y w' ∧ IsFlt y w' cl n V := by
  have HMV := Lib.hid hmv
  obtain ⟨va, hva⟩ : ∃ va, (tab 32 fun i => bv (v i)) = va := ⟨_, rfl⟩
  have hdv : dv v = .agg va := by unfold dv; rw [hva]
  have H0 : Hid (Below w.heap.size w (w.alloc (.cells va 29)) ∧ (Instr.loadAt 29 (.pointer (some ⟨w.heap.size, 0, none⟩))).run Tryz.prog (w.alloc (.cells va 29)) = .ok (.agg va) (w.alloc (.cells va 29))) := Lib.hid (by
    refine ⟨bal _ _, ?_⟩
    rw [← hdv, ← hva]
    exact load32h (IsTab.new w _ 32 _)
    )
  rw [hdv] at HMV ⊢
  clear hmv hdv hva
  go_enter Tryz.func4, Tryz.ntmps4
  go_upto_region 3 with (fail)
  generalize w.alloc (.cells va 29) = y0 at *
  generalize hqq : w.heap.size = qh at *
  go_upto_region 4 with (first
    | ((with_reducible refine wpList_loadE (P := Tryz.prog) (w := y0) (ty := 29) (x := .tmp 10) (p := .pointer (some ⟨qh, 0, none⟩)) (v := .agg va) ?_ ?_ ?_ H0.out.2 ?_); (· exact rfl); (· exact rfl); (· exact rfl))
    | (go_at_call 16; (with_reducible refine (HMV.out _ H0.out.1).mono ?_); rintro e y1 ⟨he, hr⟩; obtain rfl : e = _ := he; have HR := Lib.hid hr; clear hr HMV))
  have HFB := Lib.hid (bal y1 (.cells #[.int .i64 cl, .iface 55 (.int .i64 n)] 63))
  have HFF : Hid (IsFlt y1 (y1.alloc (.cells #[.int .i64 cl, .iface 55 (.int .i64 n)] 63)) cl n (.iface 61 (.pointer (some ⟨y1.heap.size, 0, none⟩)))) := Lib.hid ⟨_, rfl, Nat.le_refl _, by simp, by simp⟩
  go_wp2_with (fail)
  exact bodyPost_ret (v := .tuple #[.int .i64 0, .iface 61 (.pointer (some ⟨y1.heap.size, 0, none⟩))]) (by simp [results, Tryz.results4, go_sem]) rfl ⟨_, rfl, y1, HR.out, HFB.out, HFF.out⟩
end Gm
end Go.Proofs.YtnaamljflcgepaaGreatDoor
namespace Go.Proofs.YtnaamljflcgepaaGreatDoor
open Go.RowKit
set_option linter.unusedVariables false
set_option linter.unusedSimpArgs false
namespace Gm
open Kc Mk
/-- A game that began behind W. -/
structure Fx (W : World) (q a c : Nat) (G : GmS) (L : LedS) (y : World) : Prop where
  below : Below W.heap.size W y
  game : IsGame y q a c G L
  q0 : W.heap.size ≤ q
  a0 : W.heap.size ≤ a
  o0 : ∀ k, OwnL y G.b k → W.heap.size ≤ k
theorem Fx.next {W y z : World} {q a c : Nat} {G : GmS} {L : LedS} (h : Fx W q a c G L y) (hb : Below y.heap.size y z) : Fx W q a c G L z :=
  ⟨bl h.below hb, h.game.below hb, h.q0, h.a0, fun k hk => h.o0 k (own_below h.game.led hb hk)⟩
theorem Fx.move {W y z : World} {q a c : Nat} {G G' : GmS} {L L' : LedS} (h : Fx W q a c G L y) (hg : GameAt y z q a G' L') (hbb : G'.b = G.b) (hk : Kept (fun k => k = q ∨ k = a ∨ OwnL y G.b k) y z) (ho : ∀ k, OwnL z G.b k → OwnL y G.b k ∨ y.heap.size ≤ k) : ∃ a' c', Fx W q a' c' G' L' z := by
  obtain ⟨a', c', hg, ha⟩ := hg
  refine ⟨a', c', h.below.trans (hk.below h.below.size fun k _ e => ?_), hg, h.q0, ?_, fun k hk' => ?_⟩
  · rcases e with e | e | e
    · rw [e]; exact h.q0
    · rw [e]; exact h.a0
    · exact h.o0 k e
  · rcases ha with e | e
    · rw [e]; exact h.a0
    · exact Nat.le_trans h.below.size e
  · rw [hbb] at hk'
    rcases ho k hk' with e | e
    · exact h.o0 k e
    · exact Nat.le_trans h.below.size e
def hB (n : Bt) : Hx := fun i => if i = 0 then n else 0#8
theorem buildH0 (u : World) : (Instr.build 29 #[]).run Tryz.prog u = .ok (dv fun _ => 0#8) u := by kernel_rfl
theorem buildH1 (u : World) : (Instr.build 29 #[(0, .int .u8 1)]).run Tryz.prog u = .ok (dv (hB 1#8)) u := by kernel_rfl
theorem buildH2 (u : World) : (Instr.build 29 #[(0, .int .u8 2)]).run Tryz.prog u = .ok (dv (hB 2#8)) u := by kernel_rfl
theorem lock_is' {L : LedS} {p v : Int} (h0 : 0 ≤ p) (h1 : p < 8) (hv : v ≤ L.bal p.toNat) (hl : L.bonds.length < 65536) : L.lockB p v = (0, { L with bal := LedS.put L.bal p.toNat (L.bal p.toNat - v), bonds := L.bonds ++ [(v, false)], locked := L.locked + v }) := by
  unfold LedS.lockB
  rw [if_neg (by omega), if_neg (by omega), if_neg (by omega)]
theorem locks10 : ((richL 10 8).lockB 0 1).1 = 0 ∧ (((richL 10 8).lockB 0 1).2.lockB 1 2).1 = 0 := by
  obtain ⟨a, b, c, d, e, f, g⟩ := rich_is 10 (by decide) (by decide) 8 (by decide)
  have h1 := lock_is' (L := richL 10 8) (p := 0) (v := 1) (by decide) (by decide) (by rw [show (0 : Int).toNat = 0 from rfl, g 0 (by decide)]; decide) (by rw [d]; decide)
  rw [h1]
  refine ⟨rfl, ?_⟩
  have h2 := lock_is' (p := 1) (v := 2) (L := { richL 10 8 with bal := LedS.put (richL 10 8).bal (0 : Int).toNat ((richL 10 8).bal (0 : Int).toNat - 1), bonds := (richL 10 8).bonds ++ [(1, false)], locked := (richL 10 8).locked + 1 }) (by decide) (by decide) (by
    show (2 : Int) ≤ LedS.put (richL 10 8).bal 0 ((richL 10 8).bal 0 - 1) 1
    unfold LedS.put
    rw [if_neg (by decide), g 1 (by decide)]; decide) (by show ((richL 10 8).bonds ++ [(1, false)]).length < 65536; rw [d]; decide)
  rw [h2]
/-- The document's game: its first claim. -/
def G0 (b : Nat) (k : Int) : GmS := ⟨2, 10, 0, fun _ => 0#8, b, [first (hB 1#8) 0 k 0]⟩
theorem G0_ok (b : Nat) (k : Int) : GOk (G0 b k) := by
  have hm : ∀ x ∈ (G0 b k).cs, x = first (hB 1#8) 0 k 0 := fun x hx => by simpa [G0] using hx
  refine ⟨show (1 : Int) ≤ 2 by decide, show (2 : Int) ≤ 20 by decide, show (1 : Int) ≤ 10 by decide, show (10 : Int) ≤ 1099511627776 by decide, show (0 : Int) ≤ 0 by decide, show (0 : Int) ≤ 10 by decide, by show (1 : Nat) ≤ 64; decide, fun x hx => ?_, fun x hx => ?_, fun x hx => ?_, fun x hx => ?_, fun i hi => ?_⟩
  · rw [hm x hx]; exact ⟨(by decide : (0 : Int) ≤ 0), (by decide : (0 : Int) ≤ 2)⟩
  · rw [hm x hx]; exact ⟨(by decide : (0 : Int) ≤ 0), (by decide : (0 : Int) < 2 ^ (0 : Int).toNat)⟩
  · rw [hm x hx]; exact ⟨(by decide : (0 : Int) ≤ 0), (by decide : (0 : Int) ≤ 1099511627776)⟩
  · rw [hm x hx]; exact ⟨(by decide : (0 : Int) ≤ 0), (by decide : (0 : Int) ≤ 1099511627776)⟩
  · have e : i = 0 := by have : (G0 b k).cs.length = 1 := rfl; omega
    subst e
    exact ⟨(by decide : (-1 : Int) ≤ -1), (by decide : (-1 : Int) < 0)⟩
def N1 (k : Int) : Cl := ⟨((0 : Nat) : Int), 1, 2 - 2 ^ (1 : Int).toNat, hB 2#8, 1, k, 3, 3, false, false, false, 1⟩
set_option maxHeartbeats 8000000 in
set_option maxRecDepth 100000 in
theorem fixed19_walk (w : World) (het : Wt.Et w) :
    Calls Tryz.prog 11 #[] w fun e w' => e = .returned (.bool true) ∧ Below w.heap.size w w' := by
  have HET := Lib.hid het
  have HRI := Lib.hid (rich_walk w 10 (by decide) (by decide))
  have zcl := zeroCl
  unfold clV at zcl
  have hzs : (tab 42 (clv zc)).size = 42 := tab_size _ _
  have hone : (tab 42 (clv zc)).all (·.oneCell') = true := tab_one fun i => clv_one _ _
  have hinf := infCl (clv zc)
  obtain ⟨zs, hz⟩ : ∃ zs, tab 42 (clv zc) = zs := ⟨_, rfl⟩
  rw [hz] at zcl hzs hone hinf
  have HZS := Lib.hid (And.intro hzs (And.intro hone hinf))
  clear hz hzs hone hinf het
  go_enter Tryz.func11, Tryz.ntmps11
  go_upto_region 4 with (go_at_call 25; (with_reducible refine HRI.out.mono ?_); rintro e y1 ⟨b, tb, he, hp⟩; obtain rfl : e = _ := he; have H1 := Lib.hid hp; clear hp HRI)
  have HRU := Lib.hid (rules_walk y1 2 10 0 fun _ => 0#8)
  refine wp_region_lit ?_
  refine wpList_buildE rfl 29 #[] rfl #[] ?_ (dv fun _ => 0#8) (buildH0 _) ?_
  · first | (simp only [List.map_toArray, List.map_cons, List.map_nil]; rfl) | simp
  try simp only [Act.put, pS]
  refine wpList_plain rfl fun K' hK' => ?_
  go_simp
  refine (HRU.out).mono ?_
  rintro e y2 ⟨he, hb⟩
  obtain rfl : e = _ := he; have H2 := Lib.hid (H1.out.next hb); clear hb HRU H1
  refine hK' _ _ ?_
  clear hK' K'
  try simp only [Act.put, pS]
  refine wpList_plain rfl fun K' hK' => ?_
  go_simp
  refine hK' _ _ ?_
  clear hK' K'
  try simp only [Act.put, pS]
  refine wpList_buildE rfl 29 #[(0, .const (.int .u8 1))] rfl #[(0, .int .u8 1)] ?_ (dv (hB 1#8)) (buildH1 _) ?_
  · first | (simp only [List.map_toArray, List.map_cons, List.map_nil]; rfl) | simp
  try simp only [Act.put, pS]
  have HNW := Lib.hid (New_ok y2 2 10 0 0 0 (fun _ => 0#8) (hB 1#8) b (richL 10 8) H2.out.led (by decide) (by decide) (by decide) (by decide) (by decide) (by decide) locks10.1)
  refine wpList_plain rfl fun K' hK' => ?_
  go_simp
  refine (HNW.out).mono ?_
  rintro e y3 ⟨q, a, he, hg, hl, hq, ha, hs, hm⟩
  obtain rfl : e = _ := he
  refine hK' _ _ ?_
  clear hK' K'
  try simp only [Act.put, pS]
  obtain ⟨L1, hL1⟩ : ∃ L1, ((richL 10 8).lockB 0 1).2 = L1 := ⟨_, rfl⟩
  obtain ⟨k0, hk0⟩ : ∃ k0, (richL 10 8).lockN 0 1 = k0 := ⟨_, rfl⟩
  have hlk2 := locks10.2
  rw [hL1] at hl hlk2
  rw [hk0] at hg
  have H3 : Hid (Fx w q a 1 (G0 b k0) L1 y3) := Lib.hid ⟨H2.out.below.trans (hm.kept.below H2.out.below.size fun k _ e => H2.out.ol k e), ⟨hg, hl, hs⟩, Nat.le_trans H2.out.below.size hq, Nat.le_trans H2.out.below.size ha, fun k hk => by
    rcases hm.own k hk with e | e
    · exact H2.out.ol k e
    · exact Nat.le_trans H2.out.below.size e⟩
  clear hg hl hq ha hs hm HNW hL1 hk0 H2
  go_upto_region 7 with (fail)
  have HM1 := Lib.hid (Move_no y3 q 0 true (hB 2#8) 1 2 3 45 (fun z => Fx w q a 1 (G0 b k0) L1 z) fun y hb => (move_tgt y q a 1 0 (G0 b k0) L1 true (hB 2#8) 1 2 3 (H3.out.next hb).game (G0_ok b k0) (by show 0 < 1; decide) rfl rfl).mono fun e w' h => ⟨h.1, (H3.out.next hb).next h.2⟩)
  refine wp_region_lit ?_
  refine wpList_plain rfl fun K' hK' => ?_
  go_simp
  refine hK' _ _ ?_
  clear hK' K'
  try simp only [Act.put, pS]
  refine wpList_buildE rfl 29 #[(0, .const (.int .u8 2))] rfl #[(0, .int .u8 2)] ?_ (dv (hB 2#8)) (buildH2 _) ?_
  · first | (simp only [List.map_toArray, List.map_cons, List.map_nil]; rfl) | simp
  try simp only [Act.put, pS]
  refine wpList_plain rfl fun K' hK' => ?_
  go_simp
  refine (HM1.out).mono ?_
  rintro e y4 ⟨V, he, z4, hz, hb, f, hV, hf, f0, f1⟩
  obtain rfl : e = _ := he
  obtain rfl : V = _ := hV
  refine hK' _ _ ?_
  clear hK' K'
  try simp only [Act.put, pS]
  have H4 : Hid (Fx w q a 1 (G0 b k0) L1 y4 ∧ y4.cell? ⟨f, 0, none⟩ = some (.int .i64 ((0 : Nat) : Int)) ∧ y4.cell? ⟨f, 1, none⟩ = some (.iface 55 (.int .i64 45))) := Lib.hid ⟨hz.next hb, f0, f1⟩
  have HFN : Hid (f ≠ q ∧ f ≠ a ∧ ∀ k, OwnL y4 b k → k ≠ f) := Lib.hid (by
    have h1 := hz.game.gm.lt
    have h2 := hz.game.gm.row.2.1
    exact ⟨by omega, by omega, fun k hk => by have := own_lt hz.game.led (own_below hz.game.led hb hk); omega⟩)
  clear hz hb hf f0 f1 HM1 H3
  go_upto_region 8 with (fail)
  have HM2 := Lib.hid (Move_by y4 q 0 false (hB 2#8) 1 2 3 1 (fun z => ∃ a' c' k1, Fx w q a' c' ((G0 b k0).add (N1 k1)) (L1.lockB 1 2).2 z ∧ z.cell? ⟨f, 0, none⟩ = some (.int .i64 ((0 : Nat) : Int)) ∧ z.cell? ⟨f, 1, none⟩ = some (.iface 55 (.int .i64 45))) fun y hb => (move_ok y q a 1 0 (G0 b k0) L1 false (hB 2#8) 1 2 3 (H4.out.1.next hb).game (G0_ok b k0) (by show 0 < 1; decide) (by show 1 < 64; decide) hlk2 rfl 2 1 rfl rfl rfl 3 3 rfl).mono fun e w' h => by
    obtain ⟨h1, h2, h3, h4⟩ := h
    obtain ⟨a', c', hfx⟩ := (H4.out.1.next hb).move h2 rfl h3 h4
    have hn : ¬ (f = q ∨ f = a ∨ OwnL y b f) := fun e => by
      rcases e with e | e | e
      · exact HFN.out.1 e
      · exact HFN.out.2.1 e
      · exact HFN.out.2.2 f (own_below H4.out.1.game.led hb e) rfl
    exact ⟨h1, a', c', _, hfx, h3.cell hn (keep1 hb H4.out.2.1), h3.cell hn (keep1 hb H4.out.2.2)⟩)
  refine wp_region_lit ?_
  refine wpList_plain rfl fun K' hK' => ?_
  go_simp
  refine hK' _ _ ?_
  clear hK' K'
  try simp only [Act.put, pS]
  refine wpList_buildE rfl 29 #[(0, .const (.int .u8 2))] rfl #[(0, .int .u8 2)] ?_ (dv (hB 2#8)) (buildH2 _) ?_
  · first | (simp only [List.map_toArray, List.map_cons, List.map_nil]; rfl) | simp
  try simp only [Act.put, pS]
  refine wpList_plain rfl fun K' hK' => ?_
  go_simp
  refine (HM2.out).mono ?_
  rintro e y5 ⟨he, hr⟩
  obtain rfl : e = _ := he
  refine hK' _ _ ?_
  clear hK' K'
  try simp only [Act.put, pS]
  clear HM2 hlk2
  obtain ⟨a', c', k1, hr1, hr2, hr3⟩ := hr
  have H5 : Hid (Fx w q a' c' ((G0 b k0).add (N1 k1)) (L1.lockB 1 2).2 y5) := Lib.hid hr1
  have HW := Lib.hid (Wt.why_flt y5 f 0 45 (HET.out.next hr1.below) hr2 hr3)
  clear hr1 hr2 hr3 H4 HFN
  rw [show (((0 : Nat) : Int)) = 0 from rfl] at HW
  go_upto_region 10 with (go_at_call 26; (with_reducible refine HW.out.mono ?_); rintro e y6 ⟨he, hb⟩; obtain rfl : e = _ := he; have H6 := Lib.hid (H5.out.next hb); clear hb HW H5)
  have hcl0 := Claim_ok y6 q a' c' 1 _ H6.out.game.gm (by show 1 < 2; decide) (by show 2 ≤ 64; decide)
  have HCL := Lib.hid (show Calls Tryz.prog 5 #[.pointer (some ⟨q, 0, none⟩), .int .i64 1] y6 fun e w' => e = .returned (.tuple #[.agg (tab 42 (clv (N1 k1))), .nilIface]) ∧ Below y6.heap.size y6 w' from hcl0)
  clear hcl0
  go_upto_region 11 with (first
    | (go_at_call 5; (with_reducible refine HCL.out.mono ?_); rintro e y7 ⟨he, hb⟩; obtain rfl : e = _ := he; have H7 := Lib.hid (H6.out.next hb); clear hb HCL H6)
    | ((with_reducible refine wpList_store_row (P := Tryz.prog) (w := y7.alloc (.cells zs 33)) ?_ 33 (.tmp 9) (.tmp 51) ?_ y7.heap.size (tab 42 (clv (N1 k1))) ?_ ?_ 33 zs (heap_alloc_last y7 _) (infCl _) ?_ (tab_one fun i => clv_one _ _) ?_); (· exact rfl); (· exact rfl); (· exact rfl); (· exact rfl); (· rw [HZS.out.1, tab_size]); rw [World.setRow_alloc_new]; simp only [Act.put]))
  have H8 : Hid (Fx w q a' c' ((G0 b k0).add (N1 k1)) (L1.lockB 1 2).2 (y7.alloc (.cells (tab 42 (clv (N1 k1))) 33)) ∧ IsCb (y7.alloc (.cells (tab 42 (clv (N1 k1))) 33)) y7.heap.size (N1 k1)) := Lib.hid ⟨H7.out.next (bal _ _), IsTab.new y7 _ 42 _⟩
  clear H7
  generalize y7.alloc (.cells (tab 42 (clv (N1 k1))) 33) = y8 at *
  generalize y7.heap.size = q9 at *
  have c1 : y8.cell? ⟨q9, 1, none⟩ = some (.int .u64 2) := IsTab.cell H8.out.2 1 (by decide)
  have HLK := Lib.hid (load2 (show y8.cell? ⟨q9, 36, none⟩ = some (.int .u64 3) from IsTab.cell H8.out.2 36 (by decide)) (show y8.cell? ⟨q9, 36 + 1, none⟩ = some (.int .u64 3) from IsTab.cell H8.out.2 37 (by decide)))
  have HLE := Lib.hid (show Calls Tryz.prog 12 #[.pointer (some ⟨q, 0, none⟩)] y8 fun e w' => e = .returned (.int .i64 2) ∧ y8 = w' from Len_ok y8 q a' c' _ H8.out.1.game.gm)
  have HST := Lib.hid (show Calls Tryz.prog 13 #[.pointer (some ⟨q, 0, none⟩)] y8 fun e w' => e = .returned (.int .i64 0) ∧ Below y8.heap.size y8 w' from Status_ok y8 q a' c' _ H8.out.1.game.gm (by show 0 < 2; decide) (by show 2 ≤ 64; decide))
  go_wp2_with (first
    | ((with_reducible refine wpList_loadG (P := Tryz.prog) (w := y8) (ty := 31) (x := .tmp 77) (p := .pointer (some ⟨q9, 36, none⟩)) (v := .agg #[.int .u64 3, .int .u64 3]) ?_ ?_ ?_ HLK.out ?_); rotate_left; (· exact rfl); (· exact rfl); rotate_left; (· go_simp))
    | (go_at_call 12; (with_reducible refine HLE.out.mono ?_); rintro e y9 ⟨he, hy⟩; obtain rfl : e = _ := he; obtain rfl : _ = y9 := hy)
    | (go_at_call 13; (with_reducible refine HST.out.mono ?_); rintro e y10 ⟨he, hb⟩; obtain rfl : e = _ := he; have H10 := Lib.hid (bl H8.out.1.below hb); clear hb))
  exact bodyPost_ret (v := .bool true) (by simp [results, Tryz.results11, go_sem]) rfl ⟨rfl, H10.out⟩
end Gm
end Go.Proofs.YtnaamljflcgepaaGreatDoor
namespace Go.Proofs.YtnaamljflcgepaaGreatDoor
open Go.RowKit
set_option linter.unusedVariables false
set_option linter.unusedSimpArgs false
namespace Gm
open Kc Mk
theorem wpList_buildG {P : Program} {ops : Array Oper} {rest : List Oper} {op : Oper} {a : Act} {w : World} {Q : Exit → Act → World → Prop} (hw : Region.wanted op (yielded ops a.tmps) = true) (t : TypeId) (ho : op.op = .build t #[]) (v : Value) (hl : (Instr.build t #[]).run P w = .ok v w)
    (h : wpList P ops Q rest (a.put op.dst v) w) : wpList P ops Q (op :: rest) a w :=
  wpList_step fun K hK => by
    rw [if_pos hw]
    unfold Oper.wp execOp
    simp only [ho]
    simp [hl, Result.andThen]
    exact hK _ _ h
theorem wpList_opG {P : Program} {ops : Array Oper} {rest : List Oper} {op : Oper} {a : Act} {w : World} {Q : Exit → Act → World → Prop} (hw : Region.wanted op (yielded ops a.tmps) = true) (t yt : TypeId) (b : BinOp) (x y : Operand) (ho : op.op = .binOp b t x y yt) (v1 v2 v : Value) (h1 : a.eval x = v1) (h2 : a.eval y = v2) (hgd : (eqGuard b t x y v1 v2).run P w = .ok () w) (hl : (binOp b t v1 v2).run P w = .ok v w)
    (h : wpList P ops Q rest (a.put op.dst v) w) : wpList P ops Q (op :: rest) a w :=
  wpList_step fun K hK => by
    rw [if_pos hw]
    unfold Oper.wp execOp
    simp only [ho, h1, h2]
    simp [hgd, hl, Result.andThen]
    exact hK _ _ h
theorem eqlRl (u : World) : (binOp .eql 41 (.agg (tab 35 (rlv 0 0 0 fun _ => 0#8))) (.agg (tab 35 (rlv 0 0 0 fun _ => 0#8)))).run Tryz.prog u = .ok (.bool true) u := by kernel_rfl
theorem guardRl (x y : Operand) (u : World) : (eqGuard .eql 41 x y (.agg (tab 35 (rlv 0 0 0 fun _ => 0#8))) (.agg (tab 35 (rlv 0 0 0 fun _ => 0#8)))).run Tryz.prog u = .ok () u := by kernel_rfl
def stz (i : Nat) : Value := if i < 32 then bv 0#8 else if i < 49 then .int .u64 0 else if i = 49 then .bool false else if i = 50 then .int .u64 0 else if i = 51 then .slice none 0 0 else bv 0#8
theorem zeroStp : ∃ zs : Array Value, ∀ u : World, (Instr.build 51 #[]).run Tryz.prog u = .ok (.agg zs) u := ⟨tab 116 stz, fun u => by kernel_rfl⟩
set_option maxHeartbeats 8000000 in
set_option maxRecDepth 100000 in
theorem gameNil_walk {w : World} (cl now d : Int) (w0 : (Lit.int .i64 cl).wf = true) (w1 : (Lit.int .u64 now).wf = true) (w2 : (Lit.int .i64 d).wf = true) (het : Wt.Et w) :
    Calls Tryz.prog 3 #[.int .i64 cl, .int .u64 now, .int .i64 d] w fun e w' => e = .returned (.bool true) ∧ Below w.heap.size w w' := by
  have bd := bounds_i64 w2
  have HET := Lib.hid het
  obtain ⟨sz, hsz⟩ := zeroStp
  have HSZ := Lib.hid hsz
  have zcl := zeroCl
  have hcn := fun y : World => Claim_nil y cl
  unfold clV at zcl hcn
  have hzs : (tab 42 (clv zc)).size = 42 := tab_size _ _
  have hone : (tab 42 (clv zc)).all (·.oneCell') = true := tab_one fun i => clv_one _ _
  have hinf := infCl (clv zc)
  obtain ⟨zs, hz⟩ : ∃ zs, tab 42 (clv zc) = zs := ⟨_, rfl⟩
  rw [hz] at zcl hzs hone hinf hcn
  have HZS := Lib.hid (And.intro hzs (And.intro hone hinf))
  have HCN := Lib.hid hcn
  obtain ⟨hv, hhv⟩ : ∃ hv, (tab 32 fun _ => bv 0#8) = hv := ⟨_, rfl⟩
  have hd0 : dv (fun _ => 0#8) = .agg hv := by unfold dv; rw [hhv]
  have hb0 := buildH0
  rw [hd0] at hb0
  have HB0 := Lib.hid hb0
  have hru := fun y : World => rules_walk y 3 9 0 fun _ => 0#8
  rw [hd0] at hru
  obtain ⟨rv, hrv⟩ : ∃ rv, tab 35 (rlv 3 9 0 fun _ => 0#8) = rv := ⟨_, rfl⟩
  rw [hrv] at hru
  have HRU := Lib.hid hru
  have hrn := Rules_nil
  have hrb := buildRl
  have hre := eqlRl
  have hrg := guardRl
  obtain ⟨rz, hrz⟩ : ∃ rz, tab 35 (rlv 0 0 0 fun _ => 0#8) = rz := ⟨_, rfl⟩
  rw [hrz] at hrn hrb hre hrg
  have HRN := Lib.hid hrn
  have HRB := Lib.hid hrb
  have HRE := Lib.hid hre
  have HRG := Lib.hid hrg
  have HIS := Lib.hid (fun y : World => (show Calls Tryz.prog 10 #[.iface 55 (.int .i64 1), .iface 55 (.int .i64 1)] y fun e w' => e = .returned (.bool true) ∧ y = w' from Err.is_num 1 1 y))
  clear hz hzs hone hinf het hsz hcn hhv hd0 hb0 hru hrv hrn hrb hre hrg hrz w0 w1 w2
  obtain ⟨W, hW, HBD⟩ : ∃ W : Int, (∀ y : World, Calls Tryz.prog 15 #[.int .i64 d] y fun e w' => e = .returned (.int .u64 W) ∧ y = w') ∧ Hid ((0 ≤ d → W = d + 1) ∧ (d < 0 → W = 0)) := by
    by_cases c : 0 ≤ d
    · exact ⟨d + 1, fun y => Bond_ok d y c (by omega), Lib.hid ⟨fun _ => rfl, fun h => by omega⟩⟩
    · exact ⟨0, fun y => Bond_no d y (by omega), Lib.hid ⟨fun h => absurd h c, fun _ => rfl⟩⟩
  have HBO := Lib.hid hW
  clear hW
  have HDD := Lib.hid bd
  clear bd
  go_enter Tryz.func3, Tryz.ntmps3
  go_upto_region 2 with (fail)
  refine wp_region_lit ?_
  refine wpList_plain rfl fun K' hK' => ?_
  go_simp
  refine hK' _ _ ?_
  clear hK' K'
  try simp only [Act.put, pS]
  refine wpList_plain rfl fun K' hK' => ?_
  go_simp
  refine hK' _ _ ?_
  clear hK' K'
  try simp only [Act.put, pS]
  refine wpList_buildE rfl 29 #[] rfl #[] ?_ (.agg hv) (HB0.out _) ?_
  · first | (simp only [List.map_toArray, List.map_cons, List.map_nil]; rfl) | simp
  try simp only [Act.put, pS]
  refine wpList_plain rfl fun K' hK' => ?_
  go_simp
  refine hK' _ _ ?_
  clear hK' K'
  try simp only [Act.put, pS]
  refine wpList_plain rfl fun K' hK' => ?_
  go_simp
  refine (Move_nil w cl 0 2 now false hv).mono ?_
  rintro e y1 ⟨he, hb⟩
  obtain rfl : e = _ := he; have H1 := Lib.hid hb; clear hb
  refine hK' _ _ ?_
  clear hK' K'
  try simp only [Act.put, pS]
  go_upto_region 4 with (first
    | (go_at_call 5; (with_reducible refine (HCN.out _).mono ?_); rintro e y2 ⟨he, hb⟩; obtain rfl : e = _ := he; have H2 := Lib.hid (bl H1.out hb); clear hb HCN)
    | ((with_reducible refine wpList_store_row (P := Tryz.prog) (w := y2.alloc (.cells zs 33)) ?_ 33 (.tmp 10) (.tmp 29) ?_ y2.heap.size zs ?_ ?_ 33 zs (heap_alloc_last y2 _) HZS.out.2.2 ?_ HZS.out.2.1 ?_); (· exact rfl); (· exact rfl); (· exact rfl); (· exact rfl); (· exact rfl); rw [World.setRow_alloc_new]; simp only [Act.put]))
  have H3 : Hid (Below w.heap.size w (y2.alloc (.cells zs 33))) := Lib.hid (bl H2.out (bal _ _))
  clear H1 H2
  generalize y2.alloc (.cells zs 33) = y3 at *
  refine wp_region_lit ?_
  refine wpList_buildE rfl 29 #[] rfl #[] ?_ (.agg hv) (HB0.out _) ?_
  · first | (simp only [List.map_toArray, List.map_cons, List.map_nil]; rfl) | simp
  try simp only [Act.put, pS]
  refine wpList_plain rfl fun K' hK' => ?_
  go_simp
  refine (HRU.out y3).mono ?_
  rintro e y4 ⟨he, hb⟩
  obtain rfl : e = _ := he; have H4 := Lib.hid (bl H3.out hb); clear hb
  refine hK' _ _ ?_
  clear hK' K'
  try simp only [Act.put, pS]
  refine wpList_buildE rfl 29 #[] rfl #[] ?_ (.agg hv) (HB0.out _) ?_
  · first | (simp only [List.map_toArray, List.map_cons, List.map_nil]; rfl) | simp
  try simp only [Act.put, pS]
  refine wpList_plain rfl fun K' hK' => ?_
  go_simp
  refine hK' _ _ ?_
  clear hK' K'
  try simp only [Act.put, pS]
  refine wpList_plain rfl fun K' hK' => ?_
  go_simp
  refine (New_nil y4 0 now rv hv).mono ?_
  rintro e y5 ⟨he, hb⟩
  obtain rfl : e = _ := he; have H5 := Lib.hid (bl H4.out hb); clear hb
  refine hK' _ _ ?_
  clear hK' K'
  try simp only [Act.put, pS]
  go_upto_region 5 with (fail)
  clear H3 H4
  refine wp_region_lit ?_
  refine wpList_plain rfl fun K' hK' => ?_
  go_simp
  refine hK' _ _ ?_
  clear hK' K'
  try simp only [Act.put, pS]
  refine wpList_plain rfl fun K' hK' => ?_
  go_simp
  refine hK' _ _ ?_
  clear hK' K'
  try simp only [Act.put, pS]
  refine wpList_plain rfl fun K' hK' => ?_
  go_simp
  refine hK' _ _ ?_
  clear hK' K'
  try simp only [Act.put, pS]
  refine wpList_plain rfl fun K' hK' => ?_
  go_simp
  refine hK' _ _ ?_
  clear hK' K'
  try simp only [Act.put, pS]
  refine wpList_plain rfl fun K' hK' => ?_
  go_simp
  refine hK' _ _ ?_
  clear hK' K'
  try simp only [Act.put, pS]
  refine wpList_buildE rfl 51 #[] rfl #[] ?_ (.agg sz) (HSZ.out _) ?_
  · first | (simp only [List.map_toArray, List.map_cons, List.map_nil]; rfl) | simp
  try simp only [Act.put, pS]
  refine wpList_plain rfl fun K' hK' => ?_
  go_simp
  refine hK' _ _ ?_
  clear hK' K'
  try simp only [Act.put, pS]
  refine wpList_plain rfl fun K' hK' => ?_
  go_simp
  refine (Step_nil y5 cl 0 now false sz).mono ?_
  rintro e y6 ⟨he, hb⟩
  obtain rfl : e = _ := he; have H6 := Lib.hid (bl H5.out hb); clear hb
  refine hK' _ _ ?_
  clear hK' K'
  try simp only [Act.put, pS]
  refine wpList_plain rfl fun K' hK' => ?_
  go_simp
  refine hK' _ _ ?_
  clear hK' K'
  try simp only [Act.put, pS]
  refine wpList_plain rfl fun K' hK' => ?_
  go_simp
  refine hK' _ _ ?_
  clear hK' K'
  try simp only [Act.put, pS]
  refine wpList_plain rfl fun K' hK' => ?_
  go_simp
  refine hK' _ _ ?_
  clear hK' K'
  try simp only [Act.put, pS]
  refine wpList_plain rfl fun K' hK' => ?_
  go_simp
  refine (Resolve_nil y6 cl now).mono ?_
  rintro e y7 ⟨he, hb⟩
  obtain rfl : e = _ := he; have H7 := Lib.hid (bl H6.out hb); clear hb
  refine hK' _ _ ?_
  clear hK' K'
  try simp only [Act.put, pS]
  clear H5 H6
  go_upto_region 6 with (fail)
  have H8 : Hid (Below w.heap.size w (y7.alloc (.cells #[.iface 55 (.int .i64 1), .iface 55 (.int .i64 1), .iface 55 (.int .i64 1), .iface 55 (.int .i64 1), .iface 55 (.int .i64 1)] 25)) ∧ ∀ j, j < 5 → (y7.alloc (.cells #[.iface 55 (.int .i64 1), .iface 55 (.int .i64 1), .iface 55 (.int .i64 1), .iface 55 (.int .i64 1), .iface 55 (.int .i64 1)] 25)).cell? ⟨y7.heap.size, j, none⟩ = some (.iface 55 (.int .i64 1))) := Lib.hid ⟨bl H7.out (bal _ _), fun j hj => by
    have h5 : j = 0 ∨ j = 1 ∨ j = 2 ∨ j = 3 ∨ j = 4 := by omega
    rcases h5 with rfl | rfl | rfl | rfl | rfl <;> simp⟩
  clear H7
  generalize y7.alloc (.cells #[.iface 55 (.int .i64 1), .iface 55 (.int .i64 1), .iface 55 (.int .i64 1), .iface 55 (.int .i64 1), .iface 55 (.int .i64 1)] 25) = y8 at *
  generalize y7.heap.size = qs at *
  go_loopw [15, 53] (fun _ i y => ∃ j : Nat, j ≤ 5 ∧ i = .int .i64 j ∧ Hid (Below w.heap.size w y ∧ ∀ j, j < 5 → y.cell? ⟨qs, j, none⟩ = some (.iface 55 (.int .i64 1)))) (fun _ i _ => 5 - (intOf i).toNat)
  case atStart => exact ⟨0, by decide, rfl, H8⟩
  case round =>
    obtain ⟨j, hj, rfl, hp⟩ := hrel
    clear H8
    by_cases hlt : (j : Int) < (5 : Int)
    · have cj := hp.out.2 j (by omega)
      have HJ : Hid (j < 5) := Lib.hid (by omega)
      clear hj
      go_wp2_with (go_at_call 10; (with_reducible refine (HIS.out _).mono ?_); rintro e y9 ⟨he, hy⟩; obtain rfl : e = _ := he; obtain rfl : _ = y9 := hy)
      go_roundw
      case rel => exact ⟨j + 1, HJ.out, congrArg (Value.int .i64) (by omega), hp⟩
      case measure => show 5 - ((j : Int) + 1).toNat < 5 - (j : Int).toNat; have := HJ.out; omega
    · have e5 : j = 5 := by omega
      subst e5
      clear hj hlt
      by_cases c : 0 ≤ d
      · obtain rfl : W = d + 1 := HBD.out.1 c
        have hw1 : IntKind.u64.wrap d = d := by have := HDD.out; rw [IntWalk.u64_in _ (by omega)]
        have hw2 : IntKind.u64.wrap (d + 1) = d + 1 := by have := HDD.out; rw [IntWalk.u64_in _ (by omega)]
        go_wp2_with (first
        | (go_at_call 11; (with_reducible refine (fixed19_walk wr (HET.out.next hp.out.1)).mono ?_); rintro e y9 ⟨he, hb⟩; obtain rfl : e = _ := he; have H9 := Lib.hid (bl hp.out.1 hb); clear hb)
        | (go_at_call 12; (with_reducible refine (Len_nil _).mono ?_); rintro e y10 ⟨he, hy⟩; obtain rfl : e = _ := he; obtain rfl : _ = y10 := hy)
        | (go_at_call 13; (with_reducible refine (Status_nil _).mono ?_); rintro e y10 ⟨he, hy⟩; obtain rfl : e = _ := he; obtain rfl : _ = y10 := hy)
        | (go_at_call 14; (with_reducible refine (HRN.out _).mono ?_); rintro e y11 ⟨he, hb⟩; obtain rfl : e = _ := he; have H11 := Lib.hid (bl H9.out hb); clear hb)
        | ((with_reducible refine wpList_buildG (P := Tryz.prog) (w := y11) ?_ 41 ?_ (.agg rz) (HRB.out _) ?_); rotate_left; (· exact rfl); rotate_left; (· go_simp))
        | ((with_reducible refine wpList_opG (P := Tryz.prog) (w := y11) ?_ 41 41 .eql (.tmp 80) (.tmp 81) ?_ (.agg rz) (.agg rz) (.bool true) ?_ ?_ (HRG.out _ _ _) (HRE.out _) ?_); rotate_left; (· exact rfl); (· exact rfl); (· exact rfl); rotate_left; (· go_simp))
        | (go_at_call 15; (with_reducible refine (HBO.out _).mono ?_); rintro e y12 ⟨he, hy⟩; obtain rfl : e = _ := he; obtain rfl : _ = y12 := hy))
        exact bodyPost_ret (v := .bool true) (by simp [results, Tryz.results3, go_sem]) rfl ⟨rfl, H11.out⟩
      · obtain rfl : W = 0 := HBD.out.2 (by omega)
        have hc : decide (0 ≤ d) = false := by simpa using c
        go_wp2_with (first
        | (go_at_call 11; (with_reducible refine (fixed19_walk wr (HET.out.next hp.out.1)).mono ?_); rintro e y9 ⟨he, hb⟩; obtain rfl : e = _ := he; have H9 := Lib.hid (bl hp.out.1 hb); clear hb)
        | (go_at_call 12; (with_reducible refine (Len_nil _).mono ?_); rintro e y10 ⟨he, hy⟩; obtain rfl : e = _ := he; obtain rfl : _ = y10 := hy)
        | (go_at_call 13; (with_reducible refine (Status_nil _).mono ?_); rintro e y10 ⟨he, hy⟩; obtain rfl : e = _ := he; obtain rfl : _ = y10 := hy)
        | (go_at_call 14; (with_reducible refine (HRN.out _).mono ?_); rintro e y11 ⟨he, hb⟩; obtain rfl : e = _ := he; have H11 := Lib.hid (bl H9.out hb); clear hb)
        | ((with_reducible refine wpList_buildG (P := Tryz.prog) (w := y11) ?_ 41 ?_ (.agg rz) (HRB.out _) ?_); rotate_left; (· exact rfl); rotate_left; (· go_simp))
        | ((with_reducible refine wpList_opG (P := Tryz.prog) (w := y11) ?_ 41 41 .eql (.tmp 80) (.tmp 81) ?_ (.agg rz) (.agg rz) (.bool true) ?_ ?_ (HRG.out _ _ _) (HRE.out _) ?_); rotate_left; (· exact rfl); (· exact rfl); (· exact rfl); rotate_left; (· go_simp))
        | (go_at_call 15; (with_reducible refine (HBO.out _).mono ?_); rintro e y12 ⟨he, hy⟩; obtain rfl : e = _ := he; obtain rfl : _ = y12 := hy))
        exact bodyPost_ret (v := .bool true) (by simp [results, Tryz.results3, go_sem]) rfl ⟨rfl, H11.out⟩
end Gm
end Go.Proofs.YtnaamljflcgepaaGreatDoor
