/- Merged of Ce Cu Da. Own work. -/
import Derived.Test.YtjfpbponjhpdhaaDoorP24
import Derived.Test.YtjfpbponjhpdhaaDoorP22
import Derived.Test.YtjfpbponjhpdhaaDoorP23
namespace Go.Proofs.YtjfpbponjhpdhaaDoor
open Go.RowKit
set_option linter.unusedVariables false
set_option linter.unusedSimpArgs false
namespace Co
open Kc Mk Vm
/-- Cells that come in. -/
def IsCl (w : World) (a : Option Addr) (n : Nat) (f : Nat → Nat × Nat) : Prop := n = 0 ∨ ∃ b o, a = some ⟨b, o, none⟩ ∧ ∀ j, j < n → w.cell? ⟨b, o + j * 2, none⟩ = some (.int .u64 (f j).1) ∧ w.cell? ⟨b, o + j * 2 + 1, none⟩ = some (.int .u64 (f j).2)
theorem IsCl.below {w w' : World} {a : Option Addr} {n : Nat} {f : Nat → Nat × Nat} (h : IsCl w a n f) (hb : Below w.heap.size w w') : IsCl w' a n f := by
  rcases h with h | ⟨b, o, e, h⟩
  · exact .inl h
  · exact .inr ⟨b, o, e, fun j hj => ⟨keep1 hb (h j hj).1, keep1 hb (h j hj).2⟩⟩
/-- Words that come in. -/
def IsUs (w : World) (a : Option Addr) (n : Nat) (g : Nat → Nat) : Prop := n = 0 ∨ ∃ b o, a = some ⟨b, o, none⟩ ∧ ∀ j, j < n → w.cell? ⟨b, o + j, none⟩ = some (.int .u64 (g j))
theorem IsUs.below {w w' : World} {a : Option Addr} {n : Nat} {g : Nat → Nat} (h : IsUs w a n g) (hb : Below w.heap.size w w') : IsUs w' a n g := by
  rcases h with h | ⟨b, o, e, h⟩
  · exact .inl h
  · exact .inr ⟨b, o, e, fun j hj => keep1 hb (h j hj)⟩
def layC (f : Nat → Nat × Nat) : Nat → Mac → Mac
  | 0, M => M
  | j + 1, M => setM (layC f j M) ((f j).1 % 8192) (f j).2
def layR (g : Nat → Nat) : Nat → Mac → Mac
  | 0, M => M
  | j + 1, M => setR (layR g j M) j (g j)
theorem undCl : Tryd.prog.underlying 112 = some (.struct (Tryd.prog.fieldsOf 112)) := by kernel_rfl
theorem infCl : (Tryd.prog.info? 112).map (·.size) = some 2 := by kernel_rfl
theorem loadCl {w : World} {b o : Nat} {x y : Nat} (h0 : w.cell? ⟨b, o, none⟩ = some (.int .u64 x)) (h1 : w.cell? ⟨b, o + 1, none⟩ = some (.int .u64 y)) : (Instr.loadAt 112 (.pointer (some ⟨b, o, none⟩))).run Tryd.prog w = .ok (.agg #[.int .u64 x, .int .u64 y]) w := by
  refine run_loadAt_mid w b o _ [.int .u64 x, .int .u64 y] _ (fun j v hv => ?_) undCl rfl (by rw [infCl]; rfl)
  obtain ⟨hj, rfl⟩ := List.getElem?_eq_some_iff.1 hv
  simp only [List.length_cons, List.length_nil] at hj
  have e : j = 0 ∨ j = 1 := by omega
  rcases e with rfl | rfl
  · simpa using h0
  · simpa using h1
/-- What laid's loops keep. -/
structure La (w : World) (b r qm qr : Nat) (M : Mac) (y : World) : Prop where
  mac : IsMac y b M
  rm : IsRm y r qm qr M
  below : Below w.heap.size w y
  ge : w.heap.size ≤ b ∧ w.heap.size ≤ r ∧ w.heap.size ≤ qm ∧ w.heap.size ≤ qr
  ne : b ≠ r ∧ b ≠ qm ∧ b ≠ qr
theorem La.next {w y y' : World} {b r qm qr : Nat} {M : Mac} (h : La w b r qm qr M y) (hb : Below y.heap.size y y') : La w b r qm qr M y' := ⟨h.mac.below hb, h.rm.below hb, bl h.below hb, h.ge, h.ne⟩
theorem uv_upd (f : Nat → Nat) (p v : Nat) : updv (uv f) p (.int .u64 v) = uv fun i => if i = p then v else f i := by
  funext i
  unfold updv uv
  by_cases h : i = p
  · simp [h]
  · simp [h]
theorem La.setM {w y : World} {b r qm qr : Nat} {M : Mac} (h : La w b r qm qr M y) {p : Nat} (hp : p < 8192) (v : Nat) : La w b r qm qr (setM M p v) ((y.setCell ⟨b, p, none⟩ (.int .u64 (v : Int))).setCell ⟨qm, p, none⟩ (.int .u64 (v : Int))) :=
  ⟨IsTab.keep (h.mac.setMem hp v) h.ne.2.1, ⟨IsTab.keep (IsTab.keep h.rm.box (Ne.symm h.ne.1)) (Ne.symm h.rm.ne.2.1), by
    have h1 := IsTab.set (IsTab.keep (i := p) (v := .int .u64 (v : Int)) h.rm.mem (Ne.symm h.ne.2.1)) p (.int .u64 (v : Int))
    rw [uv_upd] at h1; exact h1, IsTab.keep (IsTab.keep h.rm.reg (Ne.symm h.ne.2.2)) (Ne.symm h.rm.ne.1), h.rm.ne⟩,
    (h.below.setCell h.ge.1 _).setCell h.ge.2.2.1 _, h.ge, h.ne⟩
theorem La.setR {w y : World} {b r qm qr : Nat} {M : Mac} (h : La w b r qm qr M y) {p : Nat} (hp : p < 16) (v : Nat) : La w b r qm qr (setR M p v) ((y.setCell ⟨b, 8192 + p, none⟩ (.int .u64 (v : Int))).setCell ⟨qr, p, none⟩ (.int .u64 (v : Int))) :=
  ⟨IsTab.keep (h.mac.setReg hp v) h.ne.2.2, ⟨IsTab.keep (IsTab.keep h.rm.box (Ne.symm h.ne.1)) (Ne.symm h.rm.ne.2.2), IsTab.keep (IsTab.keep h.rm.mem (Ne.symm h.ne.2.1)) h.rm.ne.1, by
    have h1 := IsTab.set (IsTab.keep (i := 8192 + p) (v := .int .u64 (v : Int)) h.rm.reg (Ne.symm h.ne.2.2)) p (.int .u64 (v : Int))
    rw [uv_upd] at h1; exact h1, h.rm.ne⟩,
    (h.below.setCell h.ge.1 _).setCell h.ge.2.2.2 _, h.ge, h.ne⟩
def endM (M : Mac) (pc exit : Nat) (halted : Bool) : Mac := ⟨M.mem, M.reg, pc, halted, exit⟩
theorem ix16U (b i : Nat) (hi : i < 16) (w : World) : (Instr.indexAt 35 (.pointer (some ⟨b, 8192, none⟩)) (.int .i64 i)).run Tryd.prog w = .ok (.pointer (some ⟨b, 8192 + i, none⟩)) w := by
  have h1 : (i : Int) < 16 := by omega
  simp [go_sem, h1, Tryd.underlying35]
theorem cell_setN {w : World} {p q i j : Nat} {v : Value} (h : p ≠ q) : (w.setCell ⟨q, j, none⟩ v).cell? ⟨p, i, none⟩ = w.cell? ⟨p, i, none⟩ := World.cell?_of_block (w := w) (Below.heap_setCell _ _ _ _ h)
set_option maxHeartbeats 2000000 in
set_option maxRecDepth 100000 in
theorem laid_walk (w : World) (a0 a1 : Option Addr) (n0 c0 n1 c1 pc exit : Nat) (halted : Bool) (f : Nat → Nat × Nat) (g : Nat → Nat) (hf : IsCl w a0 n0 f) (hg : IsUs w a1 n1 g) (h0 : n0 ≤ maxLen) (h1 : n1 ≤ maxLen) (N0 N1 : Nat) (e0 : N0 = min n0 100) (e1 : N1 = min 16 n1) :
    Calls Tryd.prog 20 #[.slice a0 n0 c0, .slice a1 n1 c1, .int .u64 pc, .int .u64 exit, .bool halted] w fun e w' => ∃ b r qm qr, e = .returned (.tuple #[.pointer (some ⟨b, 0, none⟩), .pointer (some ⟨r, 0, none⟩)]) ∧ La w b r qm qr (endM (layR g N1 (layC f N0 (loaded 0 fun _ => 0))) pc exit halted) w' := by
  have HF := Lib.hid (And.intro hf (And.intro hg (And.intro h0 (And.intro h1 (And.intro e0 e1)))))
  have HL := Lib.hid (load_zero w none 0 fun _ => 0)
  have mn := fun ts t k a b w => run_minC (P := Tryd.prog) (ts := ts) (t := t) (k := k) a b w
  have emn : min (16 : Int) (n1 : Int) = (N1 : Int) := by omega
  clear hf hg h0 h1 e0 e1
  go_enter Tryd.func20, Tryd.ntmps20
  go_upto_region 5 with (first
    | (go_at_call 7; (with_reducible refine HL.out.mono ?_); rintro e y1 ⟨he, hm, hb⟩; obtain rfl : e = _ := he; have H1 := Lib.hid (And.intro hm hb); have HR := Lib.hid (rLoad_nil y1); clear hm hb HL)
    | (go_at_call 43; (with_reducible refine HR.out.mono ?_); rintro e y2 ⟨r, qm, qr, he, hr, hb, hg, hg2, hg3⟩; obtain rfl : e = _ := he; have H2 : Hid (La w w.heap.size r qm qr (loaded 0 fun _ => 0) y2) := Lib.hid ⟨H1.out.1.below hb, hr, bl H1.out.2 hb, by have := H1.out.2.size; omega, by have := H1.out.1.lt; omega⟩; clear hr hb hg hg2 hg3 HR H1))
  generalize hq : w.heap.size = b at *
  have HQ := Lib.hid hq
  clear hq
  go_upto_region 6 with (fail)
  go_loopw [32] (fun t y => ∃ j : Nat, t = .int .i64 j ∧ Hid (j ≤ N0 ∧ La w b r qm qr (layC f j (loaded 0 fun _ => 0)) y)) (fun t _ => N0 - (intOf t).toNat)
  case atStart => exact ⟨0, rfl, Lib.hid ⟨Nat.zero_le _, H2.out⟩⟩
  case round =>
    obtain ⟨j, rfl, hp⟩ := hrel
    have HP := Lib.hid hp.out
    clear hp H2
    by_cases hlt : j < N0
    · generalize hM : layC f j (loaded 0 fun _ => 0) = M at *
      have HM := Lib.hid hM
      clear hM
      have t1 : decide (j < n0) = true := by have := HF.out.2.2.2.2.1; simp; omega
      have t2 : decide (100 ≤ (j : Int)) = false := by have := HF.out.2.2.2.2.1; simp; omega
      have hj0 : (j : Int) < (n0 : Int) := by have := HF.out.2.2.2.2.1; omega
      have HJ : Hid (j + 1 ≤ N0 ∧ wrap64 ((j : Int) + 1) = ((j + 1 : Nat) : Int)) := Lib.hid ⟨hlt, by have := HF.out.2.2.2.2.1; unfold wrap64; omega⟩
      obtain ⟨bq, o, rfl, hcl⟩ := HF.out.1.resolve_left (by have := HF.out.2.2.2.2.1; omega)
      have hc2 := hcl j (by have := HF.out.2.2.2.2.1; omega)
      have HLC := Lib.hid (loadCl (keep1 HP.out.2.below hc2.1) (keep1 HP.out.2.below hc2.2))
      generalize hX : (f j).1 = X at *
      generalize hV : (f j).2 = V at *
      have HXV := Lib.hid (And.intro hX hV)
      obtain ⟨A, hA⟩ : ∃ A, X % 8192 = A := ⟨_, rfl⟩
      have HA : Hid ((X : Int).tmod 8192 = (A : Int) ∧ A < 8192) := Lib.hid ⟨by rw [Int.tmod_eq_emod_of_nonneg (by omega)]; omega, by omega⟩
      have HAX := Lib.hid hA
      have HNW := Lib.hid (Box2.new wr 112 (.int .u64 X) (.int .u64 V))
      have HNE : Hid (b ≠ wr.heap.size ∧ qm ≠ wr.heap.size) := Lib.hid ⟨by have := HP.out.2.mac.lt; omega, by have := HP.out.2.rm.mem.lt; omega⟩
      have HL9 : Hid (La w b r qm qr M (wr.alloc (.cells #[.int .u64 X, .int .u64 V] 112)).drew) := Lib.hid ((HP.out.2.next (ba _ _)).next (Below.refl _ _).drew)
      have HS0 : Hid (Box2 (wr.alloc (.cells #[.int .u64 X, .int .u64 V] 112)).drew wr.heap.size 112 (.int .u64 X) (.int .u64 V)) := Lib.hid HNW.out
      have HS : Hid ((fun z : World => Box2 z wr.heap.size 112 (.int .u64 X) (.int .u64 V) ∧ Box5 z r 68 (.slice (some ⟨qm, 0, none⟩) 8192 8192) (.slice (some ⟨qr, 0, none⟩) 16 16) (.int .u64 M.pc) (.bool M.halted) (.int .u64 M.exit)) (wr.alloc (.cells #[.int .u64 X, .int .u64 V] 112)).drew) := Lib.hid ⟨HS0.out, HL9.out.rm.box⟩
      clear hcl hc2 hX hV hlt hA HNW HS0
      go_upto_region 9 with ((with_reducible refine wpList_loadE (P := Tryd.prog) (w := wr) (ty := 112) (x := .tmp 35) (p := .pointer (some ⟨bq, o + j * 2, none⟩)) (v := .agg #[.int .u64 X, .int .u64 V]) ?_ ?_ ?_ HLC.out ?_); (· exact rfl); (· exact rfl); (· exact rfl))
      clear t1 t2 hj0 HLC
      generalize wr.alloc (.cells #[.int .u64 X, .int .u64 V] 112) = yA at *
      generalize wr.heap.size = q16 at *
      refine wp_region_og (fun z : World => Box2 z q16 112 (.int .u64 X) (.int .u64 V) ∧ Box5 z r 68 (.slice (some ⟨qm, 0, none⟩) 8192 8192) (.slice (some ⟨qr, 0, none⟩) 16 16) (.int .u64 M.pc) (.bool M.halted) (.int .u64 M.exit)) (.take 0 (.take 1 (.take 2 (.take 3 (.take 4 (.take 5 (.take 6 (.take 7 (.take 8 (.take 9 (.take 10 (.take 11 (.take 12 (.take 13 (.take 14 (.take 15 (.take 16 (.take 17 (.one 18 (.take 19 (.one 20 .done))))))))))))))))))))) (by kernel_rfl) (by kernel_rfl) HS.out ?_
      generalize yA.drew = z1 at *
      refine og_tk (some 39) (.pointer (some ⟨b, 0, none⟩)) rfl rfl (by go_simp) (fun _ _ => by simp [execOp, go_sem]) ?_
      simp only [Act.put, pS]
      refine og_tk (some 40) (.pointer (some ⟨q16, 0, none⟩)) rfl rfl (by go_simp) (fun _ _ => by simp [execOp, go_sem]) ?_
      simp only [Act.put, pS]
      refine og_ld (some 41) 33 (.tmp 40) (.pointer (some ⟨q16, 0, none⟩)) (.int .u64 X) rfl rfl (by go_simp) rfl rfl (fun y hy => by have h := hy.1.k0; simp [Instr.loadAt, go_sem, h, Tryd.underlying33]) ?_
      simp only [Act.put, pS]
      refine og_tk (some 42) (.int .u64 A) rfl rfl (by go_simp) (fun y hy => by have h := HA.out.1; simp [execOp, go_sem, h, Result.andThen]) ?_
      simp only [Act.put, pS]
      refine og_tk (some 43) (.pointer (some ⟨r, 0, none⟩)) rfl rfl (by go_simp) (fun _ _ => by simp [execOp, go_sem]) ?_
      simp only [Act.put, pS]
      refine og_tk (some 44) (.pointer (some ⟨r, 0, none⟩)) rfl rfl (by go_simp) (fun _ _ => by simp [execOp, go_sem]) ?_
      simp only [Act.put, pS]
      refine og_tk (some 45) (.pointer (some ⟨r, 0, none⟩)) rfl rfl (by go_simp) (fun _ _ => by simp [execOp, go_sem]) ?_
      simp only [Act.put, pS]
      refine og_ld (some 46) 23 (.tmp 45) (.pointer (some ⟨r, 0, none⟩)) (.slice (some ⟨qm, 0, none⟩) 8192 8192) rfl rfl (by go_simp) rfl rfl (fun y hy => by have h := hy.2.k0; simp [Instr.loadAt, go_sem, h, Tryd.underlying23]) ?_
      simp only [Act.put, pS]
      refine og_tk (some 47) (.pointer (some ⟨q16, 0, none⟩)) rfl rfl (by go_simp) (fun _ _ => by simp [execOp, go_sem]) ?_
      simp only [Act.put, pS]
      refine og_ld (some 48) 33 (.tmp 47) (.pointer (some ⟨q16, 0, none⟩)) (.int .u64 X) rfl rfl (by go_simp) rfl rfl (fun y hy => by have h := hy.1.k0; simp [Instr.loadAt, go_sem, h, Tryd.underlying33]) ?_
      simp only [Act.put, pS]
      refine og_tk (some 49) (.int .u64 A) rfl rfl (by go_simp) (fun y hy => by have h := HA.out.1; simp [execOp, go_sem, h, Result.andThen]) ?_
      simp only [Act.put, pS]
      refine og_tk (some 50) (.pointer (some ⟨q16, 1, none⟩)) rfl rfl (by go_simp) (fun _ _ => by simp [execOp, go_sem]) ?_
      simp only [Act.put, pS]
      refine og_ld (some 51) 33 (.tmp 50) (.pointer (some ⟨q16, 1, none⟩)) (.int .u64 V) rfl rfl (by go_simp) rfl rfl (fun y hy => by have h := hy.1.k1; simp [Instr.loadAt, go_sem, h, Tryd.underlying33]) ?_
      simp only [Act.put, pS]
      refine og_tk (some 52) (.pointer (some ⟨q16, 1, none⟩)) rfl rfl (by go_simp) (fun _ _ => by simp [execOp, go_sem]) ?_
      simp only [Act.put, pS]
      refine og_ld (some 53) 33 (.tmp 52) (.pointer (some ⟨q16, 1, none⟩)) (.int .u64 V) rfl rfl (by go_simp) rfl rfl (fun y hy => by have h := hy.1.k1; simp [Instr.loadAt, go_sem, h, Tryd.underlying33]) ?_
      simp only [Act.put, pS]
      refine og_tk (some 54) (.pointer (some ⟨b, 0, none⟩)) rfl rfl (by go_simp) (fun _ _ => by simp [execOp, go_sem]) ?_
      simp only [Act.put, pS]
      refine og_tk (some 55) (.pointer (some ⟨b, 0, none⟩)) rfl rfl (by go_simp) (fun _ _ => by simp [execOp, go_sem]) ?_
      simp only [Act.put, pS]
      refine og_tk (some 56) (.pointer (some ⟨b, A, none⟩)) rfl rfl (by go_simp) (fun y hy => by have h := ixMemU b A HA.out.2 y; simp [execOp, go_sem, h, Result.andThen]) ?_
      simp only [Act.put, pS]
      have kd := HL9.out.mac.mem HA.out.2
      have fd := HL9.out.mac.fz A
      have HSB : Hid ((fun z : World => Box2 z q16 112 (.int .u64 X) (.int .u64 V) ∧ Box5 z r 68 (.slice (some ⟨qm, 0, none⟩) 8192 8192) (.slice (some ⟨qr, 0, none⟩) 16 16) (.int .u64 M.pc) (.bool M.halted) (.int .u64 M.exit)) (z1.setCell ⟨b, A, none⟩ (.int .u64 (V : Int)))) := Lib.hid ⟨IsTab.keep HS.out.1 (Ne.symm HNE.out.1), IsTab.keep HS.out.2 (Ne.symm HL9.out.ne.1)⟩
      refine og_f rfl (by go_simp) fun K hK => ?_
      go_simp
      refine hK _ _ HSB.out ?_
      clear hK K kd fd
      try simp only [List.getElem_toArray, List.getElem_cons_succ, List.getElem_cons_zero, Act.put, pS]
      have hA8 : (A : Int) < 8192 := by have := HA.out.2; omega
      refine og_tk (some 57) (.pointer (some ⟨qm, A, none⟩)) rfl rfl (by go_simp) (fun _ _ => by simp [execOp, go_sem, hA8, Result.andThen]) ?_
      simp only [Act.put, pS]
      have kd : (z1.setCell ⟨b, A, none⟩ (.int .u64 (V : Int))).cell? ⟨qm, A, none⟩ = some (.int .u64 (M.mem A)) := (IsTab.keep HL9.out.rm.mem (Ne.symm HL9.out.ne.2.1)).cell A HA.out.2
      have fd : (z1.setCell ⟨b, A, none⟩ (.int .u64 (V : Int))).frozen? ⟨qm, A, none⟩ = false := (IsTab.keep HL9.out.rm.mem (Ne.symm HL9.out.ne.2.1)).fz A
      have HL10 := Lib.hid (HL9.out.setM HA.out.2 V)
      have HSC : Hid ((fun z : World => Box2 z q16 112 (.int .u64 X) (.int .u64 V) ∧ Box5 z r 68 (.slice (some ⟨qm, 0, none⟩) 8192 8192) (.slice (some ⟨qr, 0, none⟩) 16 16) (.int .u64 M.pc) (.bool M.halted) (.int .u64 M.exit)) ((z1.setCell ⟨b, A, none⟩ (.int .u64 (V : Int))).setCell ⟨qm, A, none⟩ (.int .u64 (V : Int)))) := Lib.hid ⟨IsTab.keep HSB.out.1 (Ne.symm HNE.out.2), IsTab.keep HSB.out.2 (Ne.symm HL9.out.rm.ne.2.1)⟩
      refine og_f rfl (by go_simp) fun K hK => ?_
      go_simp
      refine hK _ _ HSC.out ?_
      clear hK K kd fd hA8 HSC HSB HL9 HS
      try simp only [List.getElem_toArray, List.getElem_cons_succ, List.getElem_cons_zero, Act.put, pS]
      refine og_done (NoPanic.normal ?_)
      generalize (z1.setCell ⟨b, A, none⟩ (.int .u64 (V : Int))).setCell ⟨qm, A, none⟩ (.int .u64 (V : Int)) = z2 at *
      have hw1 := HJ.out.2
      go_wp2_with (fail)
      go_roundw
      case rel => exact ⟨j + 1, by go_num, Lib.hid ⟨HJ.out.1, by show La w b r qm qr (setM (layC f j (loaded 0 fun _ => 0)) ((f j).1 % 8192) (f j).2) z2; rw [HM.out, HXV.out.1, HXV.out.2, HAX.out]; exact HL10.out⟩⟩
      case measure =>
        have := HJ.out.1
        clear hw1
        try rw [HJ.out.2]
        simp [intOf]; omega
    · obtain rfl : j = N0 := by have := HP.out.1; omega
      rcases Nat.lt_or_ge j n0 with hjn | hjn
      · have t1 : decide (j < n0) = true := by simp; omega
        have t2 : decide (100 ≤ (j : Int)) = true := by have := HF.out.2.2.2.2.1; simp; omega
        have hj0 : (j : Int) < (n0 : Int) := by omega
        obtain ⟨bq, o, rfl, hcl⟩ := HF.out.1.resolve_left (by omega)
        have hc2 := hcl j hjn
        have HLC := Lib.hid (loadCl (keep1 HP.out.2.below hc2.1) (keep1 HP.out.2.below hc2.2))
        generalize (f j).1 = X at *
        generalize (f j).2 = V at *
        have HP := Lib.hid (And.intro trivial (HP.out.2.next (ba wr (.cells #[.int .u64 X, .int .u64 V] 112))))
        clear hcl hc2 hlt hjn
        go_upto_region 11 with ((with_reducible refine wpList_loadE (P := Tryd.prog) (w := wr) (ty := 112) (x := .tmp 35) (p := .pointer (some ⟨bq, o + j * 2, none⟩)) (v := .agg #[.int .u64 X, .int .u64 V]) ?_ ?_ ?_ HLC.out ?_); (· exact rfl); (· exact rfl); (· exact rfl))
        clear t1 t2 hj0 HLC
        generalize wr.alloc (.cells #[.int .u64 X, .int .u64 V] 112) = yA at *
        go_upto_region 12 with (fail)
        have H3a := Lib.hid HP.out.2
        clear HP
        generalize hM1 : layC f j (loaded 0 fun _ => 0) = M1 at *
        have HM1 := Lib.hid hM1
        clear hM1
        go_loopw [62] (fun t y => ∃ j : Nat, t = .int .i64 j ∧ Hid (j ≤ N1 ∧ La w b r qm qr (layR g j M1) y)) (fun t _ => N1 - (intOf t).toNat)
        case atStart => exact ⟨0, rfl, Lib.hid ⟨Nat.zero_le _, H3a.out⟩⟩
        case round =>
          obtain ⟨j, rfl, hp⟩ := hrel
          have HP := Lib.hid hp.out
          clear hp H3a
          generalize hM : layR g j M1 = M at *
          have HM := Lib.hid hM
          clear hM
          by_cases hlt : j < N1
          · have t1 : decide (j < N1) = true := by simp; omega
            have HJ : Hid (j + 1 ≤ N1 ∧ wrap64 ((j : Int) + 1) = ((j + 1 : Nat) : Int) ∧ j < 16) := Lib.hid ⟨hlt, by have := HF.out.2.2.2.2.2; unfold wrap64; omega, by have := HF.out.2.2.2.2.2; omega⟩
            have hj1 : (j : Int) < (n1 : Int) := by have := HF.out.2.2.2.2.2; omega
            obtain ⟨bq, o, rfl, hcl⟩ := HF.out.2.1.resolve_left (by have := HF.out.2.2.2.2.2; omega)
            have hc2 := hcl j (by have := HF.out.2.2.2.2.2; omega)
            generalize hV : g j = V at *
            have HXV := Lib.hid hV
            have HNE : Hid (b ≠ bq ∧ qr ≠ bq) := Lib.hid (by have h1 := inHeap hc2; have h2 := HP.out.2.ge; omega)
            have HL9 : Hid (La w b r qm qr M wr.drew) := Lib.hid (HP.out.2.next (Below.refl _ _).drew)
            have HS : Hid ((fun z : World => z.cell? ⟨bq, o + j, none⟩ = some (.int .u64 V) ∧ Box5 z r 68 (.slice (some ⟨qm, 0, none⟩) 8192 8192) (.slice (some ⟨qr, 0, none⟩) 16 16) (.int .u64 M.pc) (.bool M.halted) (.int .u64 M.exit)) wr.drew) := Lib.hid ⟨keep1 HL9.out.below hc2, HP.out.2.rm.box⟩
            clear hcl hc2 hV hlt
            go_upto_region 14 with (fail)
            clear t1
            refine wp_region_og (fun z : World => z.cell? ⟨bq, o + j, none⟩ = some (.int .u64 V) ∧ Box5 z r 68 (.slice (some ⟨qm, 0, none⟩) 8192 8192) (.slice (some ⟨qr, 0, none⟩) 16 16) (.int .u64 M.pc) (.bool M.halted) (.int .u64 M.exit)) (.take 0 (.take 1 (.take 2 (.take 3 (.take 4 (.take 5 (.take 6 (.take 7 (.take 8 (.take 9 (.take 10 (.take 11 (.take 12 (.take 13 (.take 14 (.take 15 (.take 16 (.take 17 (.one 18 (.take 19 (.one 20 .done))))))))))))))))))))) (by kernel_rfl) (by kernel_rfl) HS.out ?_
            generalize wr.drew = z1 at *
            refine og_tk (some 65) (.pointer (some ⟨b, 0, none⟩)) rfl rfl (by go_simp) (fun _ _ => by simp [execOp, go_sem]) ?_
            simp only [Act.put, pS]
            refine og_tk (some 66) (.int .i64 j) rfl rfl (by go_simp) (fun _ _ => by simp [execOp, go_sem]) ?_
            simp only [Act.put, pS]
            refine og_tk (some 67) (.pointer (some ⟨r, 0, none⟩)) rfl rfl (by go_simp) (fun _ _ => by simp [execOp, go_sem]) ?_
            simp only [Act.put, pS]
            refine og_tk (some 68) (.pointer (some ⟨r, 0, none⟩)) rfl rfl (by go_simp) (fun _ _ => by simp [execOp, go_sem]) ?_
            simp only [Act.put, pS]
            refine og_tk (some 69) (.pointer (some ⟨r, 1, none⟩)) rfl rfl (by go_simp) (fun _ _ => by simp [execOp, go_sem]) ?_
            simp only [Act.put, pS]
            refine og_ld (some 70) 23 (.tmp 69) (.pointer (some ⟨r, 1, none⟩)) (.slice (some ⟨qr, 0, none⟩) 16 16) rfl rfl (by go_simp) rfl rfl (fun y hy => by have h := hy.2.k1; simp [Instr.loadAt, go_sem, h, Tryd.underlying23]) ?_
            simp only [Act.put, pS]
            refine og_tk (some 71) (.int .i64 j) rfl rfl (by go_simp) (fun _ _ => by simp [execOp, go_sem]) ?_
            simp only [Act.put, pS]
            refine og_tk (some 72) (.slice (some ⟨bq, o, none⟩) n1 c1) rfl rfl (by go_simp) (fun _ _ => by simp [execOp, go_sem]) ?_
            simp only [Act.put, pS]
            refine og_tk (some 73) (.int .i64 j) rfl rfl (by go_simp) (fun _ _ => by simp [execOp, go_sem]) ?_
            simp only [Act.put, pS]
            refine og_tk (some 74) (.pointer (some ⟨bq, o + j, none⟩)) rfl rfl (by go_simp) (fun _ _ => by simp [execOp, go_sem, hj1, Result.andThen]) ?_
            simp only [Act.put, pS]
            refine og_ld (some 75) 33 (.tmp 74) (.pointer (some ⟨bq, o + j, none⟩)) (.int .u64 V) rfl rfl (by go_simp) rfl rfl (fun y hy => by have h := hy.1; simp [Instr.loadAt, go_sem, h, Tryd.underlying33]) ?_
            simp only [Act.put, pS]
            refine og_tk (some 76) (.slice (some ⟨bq, o, none⟩) n1 c1) rfl rfl (by go_simp) (fun _ _ => by simp [execOp, go_sem]) ?_
            simp only [Act.put, pS]
            refine og_tk (some 77) (.int .i64 j) rfl rfl (by go_simp) (fun _ _ => by simp [execOp, go_sem]) ?_
            simp only [Act.put, pS]
            refine og_tk (some 78) (.pointer (some ⟨bq, o + j, none⟩)) rfl rfl (by go_simp) (fun _ _ => by simp [execOp, go_sem, hj1, Result.andThen]) ?_
            simp only [Act.put, pS]
            refine og_ld (some 79) 33 (.tmp 78) (.pointer (some ⟨bq, o + j, none⟩)) (.int .u64 V) rfl rfl (by go_simp) rfl rfl (fun y hy => by have h := hy.1; simp [Instr.loadAt, go_sem, h, Tryd.underlying33]) ?_
            simp only [Act.put, pS]
            refine og_tk (some 80) (.pointer (some ⟨b, 0, none⟩)) rfl rfl (by go_simp) (fun _ _ => by simp [execOp, go_sem]) ?_
            simp only [Act.put, pS]
            refine og_tk (some 81) (.pointer (some ⟨b, 8192, none⟩)) rfl rfl (by go_simp) (fun _ _ => by simp [execOp, go_sem]) ?_
            simp only [Act.put, pS]
            refine og_tk (some 82) (.pointer (some ⟨b, 8192 + j, none⟩)) rfl rfl (by go_simp) (fun y hy => by have h := ix16U b j HJ.out.2.2 y; simp [execOp, go_sem, h, Result.andThen]) ?_
            simp only [Act.put, pS]
            have kd := HL9.out.mac.reg HJ.out.2.2
            have fd := HL9.out.mac.fz (8192 + j)
            have HSB : Hid ((fun z : World => z.cell? ⟨bq, o + j, none⟩ = some (.int .u64 V) ∧ Box5 z r 68 (.slice (some ⟨qm, 0, none⟩) 8192 8192) (.slice (some ⟨qr, 0, none⟩) 16 16) (.int .u64 M.pc) (.bool M.halted) (.int .u64 M.exit)) (z1.setCell ⟨b, 8192 + j, none⟩ (.int .u64 (V : Int)))) := Lib.hid ⟨by rw [cell_setN (Ne.symm HNE.out.1)]; exact HS.out.1, IsTab.keep HS.out.2 (Ne.symm HL9.out.ne.1)⟩
            refine og_f rfl (by go_simp) fun K hK => ?_
            go_simp
            refine hK _ _ HSB.out ?_
            clear hK K kd fd
            try simp only [List.getElem_toArray, List.getElem_cons_succ, List.getElem_cons_zero, Act.put, pS]
            have hA8 : (j : Int) < 16 := by have := HJ.out.2.2; omega
            refine og_tk (some 83) (.pointer (some ⟨qr, j, none⟩)) rfl rfl (by go_simp) (fun _ _ => by simp [execOp, go_sem, hA8, Result.andThen]) ?_
            simp only [Act.put, pS]
            have kd : (z1.setCell ⟨b, 8192 + j, none⟩ (.int .u64 (V : Int))).cell? ⟨qr, j, none⟩ = some (.int .u64 (M.reg j)) := (IsTab.keep HL9.out.rm.reg (Ne.symm HL9.out.ne.2.2)).cell j HJ.out.2.2
            have fd : (z1.setCell ⟨b, 8192 + j, none⟩ (.int .u64 (V : Int))).frozen? ⟨qr, j, none⟩ = false := (IsTab.keep HL9.out.rm.reg (Ne.symm HL9.out.ne.2.2)).fz j
            have HL10 := Lib.hid (HL9.out.setR HJ.out.2.2 V)
            have HSC : Hid ((fun z : World => z.cell? ⟨bq, o + j, none⟩ = some (.int .u64 V) ∧ Box5 z r 68 (.slice (some ⟨qm, 0, none⟩) 8192 8192) (.slice (some ⟨qr, 0, none⟩) 16 16) (.int .u64 M.pc) (.bool M.halted) (.int .u64 M.exit)) ((z1.setCell ⟨b, 8192 + j, none⟩ (.int .u64 (V : Int))).setCell ⟨qr, j, none⟩ (.int .u64 (V : Int)))) := Lib.hid ⟨by rw [cell_setN (Ne.symm HNE.out.2)]; exact HSB.out.1, IsTab.keep HSB.out.2 (Ne.symm HL9.out.rm.ne.2.2)⟩
            refine og_f rfl (by go_simp) fun K hK => ?_
            go_simp
            refine hK _ _ HSC.out ?_
            clear hK K kd fd hA8 HSC HSB HL9 HS
            try simp only [List.getElem_toArray, List.getElem_cons_succ, List.getElem_cons_zero, Act.put, pS]
            refine og_done (NoPanic.normal ?_)
            generalize (z1.setCell ⟨b, 8192 + j, none⟩ (.int .u64 (V : Int))).setCell ⟨qr, j, none⟩ (.int .u64 (V : Int)) = z2 at *
            clear hj1
            have hw1 := HJ.out.2.1
            go_wp2_with (fail)
            go_roundw
            case rel => exact ⟨j + 1, by go_num, Lib.hid ⟨HJ.out.1, by show La w b r qm qr (setR (layR g j M1) j (g j)) z2; rw [HM.out, HXV.out]; exact HL10.out⟩⟩
            case measure =>
              have := HJ.out.1
              clear hw1
              try rw [HJ.out.2.1]
              simp [intOf]; omega
          · obtain rfl : j = N1 := by have := HP.out.1; omega
            have t1 : decide (j < j) = false := by simp
            clear hlt
            go_upto_region 16 with (fail)
            clear t1
            have k1 := HP.out.2.mac.pc
            have f1 := HP.out.2.mac.fz 8208
            have k2 := (HP.out.2.mac.setPc pc).exit
            have f2 := (HP.out.2.mac.setPc pc).fz 8210
            have k3 := ((HP.out.2.mac.setPc pc).setExit exit).halted
            have f3 := ((HP.out.2.mac.setPc pc).setExit exit).fz 8209
            have HE1 : Hid (IsMac (((wr.setCell ⟨b, 8208, none⟩ (.int .u64 (pc : Int))).setCell ⟨b, 8210, none⟩ (.int .u64 (exit : Int))).setCell ⟨b, 8209, none⟩ (.bool halted)) b (endM M pc exit halted) ∧ IsRm (((wr.setCell ⟨b, 8208, none⟩ (.int .u64 (pc : Int))).setCell ⟨b, 8210, none⟩ (.int .u64 (exit : Int))).setCell ⟨b, 8209, none⟩ (.bool halted)) r qm qr M ∧ Below w.heap.size w (((wr.setCell ⟨b, 8208, none⟩ (.int .u64 (pc : Int))).setCell ⟨b, 8210, none⟩ (.int .u64 (exit : Int))).setCell ⟨b, 8209, none⟩ (.bool halted))) := Lib.hid (by
              have g := HP.out.2
              refine ⟨((g.mac.setPc pc).setExit exit).setHalted halted, ⟨IsTab.keep (IsTab.keep (IsTab.keep g.rm.box (Ne.symm g.ne.1)) (Ne.symm g.ne.1)) (Ne.symm g.ne.1), IsTab.keep (IsTab.keep (IsTab.keep g.rm.mem (Ne.symm g.ne.2.1)) (Ne.symm g.ne.2.1)) (Ne.symm g.ne.2.1), IsTab.keep (IsTab.keep (IsTab.keep g.rm.reg (Ne.symm g.ne.2.2)) (Ne.symm g.ne.2.2)) (Ne.symm g.ne.2.2), g.rm.ne⟩, ((g.below.setCell g.ge.1 _).setCell g.ge.1 _).setCell g.ge.1 _⟩)
            go_upto_region 17 with (fail)
            clear k1 k2 k3 f1 f2 f3
            have HG := Lib.hid (And.intro HP.out.2.ge HP.out.2.ne)
            clear HP
            generalize ((wr.setCell ⟨b, 8208, none⟩ (.int .u64 (pc : Int))).setCell ⟨b, 8210, none⟩ (.int .u64 (exit : Int))).setCell ⟨b, 8209, none⟩ (.bool halted) = y3 at *
            have k1 := HE1.out.2.1.box.k2
            have f1 := HE1.out.2.1.box.f 2
            have k2 := (HE1.out.2.1.box.p2 (.int .u64 (pc : Int))).k4
            have f2 := (HE1.out.2.1.box.p2 (.int .u64 (pc : Int))).f 4
            have k3 := ((HE1.out.2.1.box.p2 (.int .u64 (pc : Int))).p4 (.int .u64 (exit : Int))).k3
            have f3 := ((HE1.out.2.1.box.p2 (.int .u64 (pc : Int))).p4 (.int .u64 (exit : Int))).f 3
            have HE2 : Hid (La w b r qm qr (endM M pc exit halted) (((y3.setCell ⟨r, 2, none⟩ (.int .u64 (pc : Int))).setCell ⟨r, 4, none⟩ (.int .u64 (exit : Int))).setCell ⟨r, 3, none⟩ (.bool halted))) := Lib.hid (by
              have g := HE1.out
              have n := HG.out.2
              have m := g.2.1.ne
              refine ⟨IsTab.keep (IsTab.keep (IsTab.keep g.1 n.1) n.1) n.1, ⟨((g.2.1.box.p2 _).p4 _).p3 _, IsTab.keep (IsTab.keep (IsTab.keep g.2.1.mem m.2.1) m.2.1) m.2.1, IsTab.keep (IsTab.keep (IsTab.keep g.2.1.reg m.2.2) m.2.2) m.2.2, m⟩, ((g.2.2.setCell HG.out.1.2.1 _).setCell HG.out.1.2.1 _).setCell HG.out.1.2.1 _, HG.out.1, n⟩)
            go_wp2_with (fail)
            exact bodyPost_ret (v := .tuple #[.pointer (some ⟨b, 0, none⟩), .pointer (some ⟨r, 0, none⟩)]) (by simp [results, Tryd.results20, go_sem]) rfl ⟨b, r, qm, qr, rfl, by rw [HM1.out, HM.out]; exact HE2.out⟩
      · have t1 : decide (j < n0) = false := by simp; omega
        clear hlt hjn
        go_upto_region 11 with (fail)
        clear t1
        go_upto_region 12 with (fail)
        have H3 := Lib.hid HP.out.2
        clear HP
        generalize hM1 : layC f j (loaded 0 fun _ => 0) = M1 at *
        have HM1 := Lib.hid hM1
        clear hM1
        go_loopw [62] (fun t y => ∃ j : Nat, t = .int .i64 j ∧ Hid (j ≤ N1 ∧ La w b r qm qr (layR g j M1) y)) (fun t _ => N1 - (intOf t).toNat)
        case atStart => exact ⟨0, rfl, Lib.hid ⟨Nat.zero_le _, H3.out⟩⟩
        case round =>
          obtain ⟨j, rfl, hp⟩ := hrel
          have HP := Lib.hid hp.out
          clear hp H3
          generalize hM : layR g j M1 = M at *
          have HM := Lib.hid hM
          clear hM
          by_cases hlt : j < N1
          · have t1 : decide (j < N1) = true := by simp; omega
            have HJ : Hid (j + 1 ≤ N1 ∧ wrap64 ((j : Int) + 1) = ((j + 1 : Nat) : Int) ∧ j < 16) := Lib.hid ⟨hlt, by have := HF.out.2.2.2.2.2; unfold wrap64; omega, by have := HF.out.2.2.2.2.2; omega⟩
            have hj1 : (j : Int) < (n1 : Int) := by have := HF.out.2.2.2.2.2; omega
            obtain ⟨bq, o, rfl, hcl⟩ := HF.out.2.1.resolve_left (by have := HF.out.2.2.2.2.2; omega)
            have hc2 := hcl j (by have := HF.out.2.2.2.2.2; omega)
            generalize hV : g j = V at *
            have HXV := Lib.hid hV
            have HNE : Hid (b ≠ bq ∧ qr ≠ bq) := Lib.hid (by have h1 := inHeap hc2; have h2 := HP.out.2.ge; omega)
            have HL9 : Hid (La w b r qm qr M wr.drew) := Lib.hid (HP.out.2.next (Below.refl _ _).drew)
            have HS : Hid ((fun z : World => z.cell? ⟨bq, o + j, none⟩ = some (.int .u64 V) ∧ Box5 z r 68 (.slice (some ⟨qm, 0, none⟩) 8192 8192) (.slice (some ⟨qr, 0, none⟩) 16 16) (.int .u64 M.pc) (.bool M.halted) (.int .u64 M.exit)) wr.drew) := Lib.hid ⟨keep1 HL9.out.below hc2, HP.out.2.rm.box⟩
            clear hcl hc2 hV hlt
            go_upto_region 14 with (fail)
            clear t1
            refine wp_region_og (fun z : World => z.cell? ⟨bq, o + j, none⟩ = some (.int .u64 V) ∧ Box5 z r 68 (.slice (some ⟨qm, 0, none⟩) 8192 8192) (.slice (some ⟨qr, 0, none⟩) 16 16) (.int .u64 M.pc) (.bool M.halted) (.int .u64 M.exit)) (.take 0 (.take 1 (.take 2 (.take 3 (.take 4 (.take 5 (.take 6 (.take 7 (.take 8 (.take 9 (.take 10 (.take 11 (.take 12 (.take 13 (.take 14 (.take 15 (.take 16 (.take 17 (.one 18 (.take 19 (.one 20 .done))))))))))))))))))))) (by kernel_rfl) (by kernel_rfl) HS.out ?_
            generalize wr.drew = z1 at *
            refine og_tk (some 65) (.pointer (some ⟨b, 0, none⟩)) rfl rfl (by go_simp) (fun _ _ => by simp [execOp, go_sem]) ?_
            simp only [Act.put, pS]
            refine og_tk (some 66) (.int .i64 j) rfl rfl (by go_simp) (fun _ _ => by simp [execOp, go_sem]) ?_
            simp only [Act.put, pS]
            refine og_tk (some 67) (.pointer (some ⟨r, 0, none⟩)) rfl rfl (by go_simp) (fun _ _ => by simp [execOp, go_sem]) ?_
            simp only [Act.put, pS]
            refine og_tk (some 68) (.pointer (some ⟨r, 0, none⟩)) rfl rfl (by go_simp) (fun _ _ => by simp [execOp, go_sem]) ?_
            simp only [Act.put, pS]
            refine og_tk (some 69) (.pointer (some ⟨r, 1, none⟩)) rfl rfl (by go_simp) (fun _ _ => by simp [execOp, go_sem]) ?_
            simp only [Act.put, pS]
            refine og_ld (some 70) 23 (.tmp 69) (.pointer (some ⟨r, 1, none⟩)) (.slice (some ⟨qr, 0, none⟩) 16 16) rfl rfl (by go_simp) rfl rfl (fun y hy => by have h := hy.2.k1; simp [Instr.loadAt, go_sem, h, Tryd.underlying23]) ?_
            simp only [Act.put, pS]
            refine og_tk (some 71) (.int .i64 j) rfl rfl (by go_simp) (fun _ _ => by simp [execOp, go_sem]) ?_
            simp only [Act.put, pS]
            refine og_tk (some 72) (.slice (some ⟨bq, o, none⟩) n1 c1) rfl rfl (by go_simp) (fun _ _ => by simp [execOp, go_sem]) ?_
            simp only [Act.put, pS]
            refine og_tk (some 73) (.int .i64 j) rfl rfl (by go_simp) (fun _ _ => by simp [execOp, go_sem]) ?_
            simp only [Act.put, pS]
            refine og_tk (some 74) (.pointer (some ⟨bq, o + j, none⟩)) rfl rfl (by go_simp) (fun _ _ => by simp [execOp, go_sem, hj1, Result.andThen]) ?_
            simp only [Act.put, pS]
            refine og_ld (some 75) 33 (.tmp 74) (.pointer (some ⟨bq, o + j, none⟩)) (.int .u64 V) rfl rfl (by go_simp) rfl rfl (fun y hy => by have h := hy.1; simp [Instr.loadAt, go_sem, h, Tryd.underlying33]) ?_
            simp only [Act.put, pS]
            refine og_tk (some 76) (.slice (some ⟨bq, o, none⟩) n1 c1) rfl rfl (by go_simp) (fun _ _ => by simp [execOp, go_sem]) ?_
            simp only [Act.put, pS]
            refine og_tk (some 77) (.int .i64 j) rfl rfl (by go_simp) (fun _ _ => by simp [execOp, go_sem]) ?_
            simp only [Act.put, pS]
            refine og_tk (some 78) (.pointer (some ⟨bq, o + j, none⟩)) rfl rfl (by go_simp) (fun _ _ => by simp [execOp, go_sem, hj1, Result.andThen]) ?_
            simp only [Act.put, pS]
            refine og_ld (some 79) 33 (.tmp 78) (.pointer (some ⟨bq, o + j, none⟩)) (.int .u64 V) rfl rfl (by go_simp) rfl rfl (fun y hy => by have h := hy.1; simp [Instr.loadAt, go_sem, h, Tryd.underlying33]) ?_
            simp only [Act.put, pS]
            refine og_tk (some 80) (.pointer (some ⟨b, 0, none⟩)) rfl rfl (by go_simp) (fun _ _ => by simp [execOp, go_sem]) ?_
            simp only [Act.put, pS]
            refine og_tk (some 81) (.pointer (some ⟨b, 8192, none⟩)) rfl rfl (by go_simp) (fun _ _ => by simp [execOp, go_sem]) ?_
            simp only [Act.put, pS]
            refine og_tk (some 82) (.pointer (some ⟨b, 8192 + j, none⟩)) rfl rfl (by go_simp) (fun y hy => by have h := ix16U b j HJ.out.2.2 y; simp [execOp, go_sem, h, Result.andThen]) ?_
            simp only [Act.put, pS]
            have kd := HL9.out.mac.reg HJ.out.2.2
            have fd := HL9.out.mac.fz (8192 + j)
            have HSB : Hid ((fun z : World => z.cell? ⟨bq, o + j, none⟩ = some (.int .u64 V) ∧ Box5 z r 68 (.slice (some ⟨qm, 0, none⟩) 8192 8192) (.slice (some ⟨qr, 0, none⟩) 16 16) (.int .u64 M.pc) (.bool M.halted) (.int .u64 M.exit)) (z1.setCell ⟨b, 8192 + j, none⟩ (.int .u64 (V : Int)))) := Lib.hid ⟨by rw [cell_setN (Ne.symm HNE.out.1)]; exact HS.out.1, IsTab.keep HS.out.2 (Ne.symm HL9.out.ne.1)⟩
            refine og_f rfl (by go_simp) fun K hK => ?_
            go_simp
            refine hK _ _ HSB.out ?_
            clear hK K kd fd
            try simp only [List.getElem_toArray, List.getElem_cons_succ, List.getElem_cons_zero, Act.put, pS]
            have hA8 : (j : Int) < 16 := by have := HJ.out.2.2; omega
            refine og_tk (some 83) (.pointer (some ⟨qr, j, none⟩)) rfl rfl (by go_simp) (fun _ _ => by simp [execOp, go_sem, hA8, Result.andThen]) ?_
            simp only [Act.put, pS]
            have kd : (z1.setCell ⟨b, 8192 + j, none⟩ (.int .u64 (V : Int))).cell? ⟨qr, j, none⟩ = some (.int .u64 (M.reg j)) := (IsTab.keep HL9.out.rm.reg (Ne.symm HL9.out.ne.2.2)).cell j HJ.out.2.2
            have fd : (z1.setCell ⟨b, 8192 + j, none⟩ (.int .u64 (V : Int))).frozen? ⟨qr, j, none⟩ = false := (IsTab.keep HL9.out.rm.reg (Ne.symm HL9.out.ne.2.2)).fz j
            have HL10 := Lib.hid (HL9.out.setR HJ.out.2.2 V)
            have HSC : Hid ((fun z : World => z.cell? ⟨bq, o + j, none⟩ = some (.int .u64 V) ∧ Box5 z r 68 (.slice (some ⟨qm, 0, none⟩) 8192 8192) (.slice (some ⟨qr, 0, none⟩) 16 16) (.int .u64 M.pc) (.bool M.halted) (.int .u64 M.exit)) ((z1.setCell ⟨b, 8192 + j, none⟩ (.int .u64 (V : Int))).setCell ⟨qr, j, none⟩ (.int .u64 (V : Int)))) := Lib.hid ⟨by rw [cell_setN (Ne.symm HNE.out.2)]; exact HSB.out.1, IsTab.keep HSB.out.2 (Ne.symm HL9.out.rm.ne.2.2)⟩
            refine og_f rfl (by go_simp) fun K hK => ?_
            go_simp
            refine hK _ _ HSC.out ?_
            clear hK K kd fd hA8 HSC HSB HL9 HS
            try simp only [List.getElem_toArray, List.getElem_cons_succ, List.getElem_cons_zero, Act.put, pS]
            refine og_done (NoPanic.normal ?_)
            generalize (z1.setCell ⟨b, 8192 + j, none⟩ (.int .u64 (V : Int))).setCell ⟨qr, j, none⟩ (.int .u64 (V : Int)) = z2 at *
            clear hj1
            have hw1 := HJ.out.2.1
            go_wp2_with (fail)
            go_roundw
            case rel => exact ⟨j + 1, by go_num, Lib.hid ⟨HJ.out.1, by show La w b r qm qr (setR (layR g j M1) j (g j)) z2; rw [HM.out, HXV.out]; exact HL10.out⟩⟩
            case measure =>
              have := HJ.out.1
              clear hw1
              try rw [HJ.out.2.1]
              simp [intOf]; omega
          · obtain rfl : j = N1 := by have := HP.out.1; omega
            have t1 : decide (j < j) = false := by simp
            clear hlt
            go_upto_region 16 with (fail)
            clear t1
            have k1 := HP.out.2.mac.pc
            have f1 := HP.out.2.mac.fz 8208
            have k2 := (HP.out.2.mac.setPc pc).exit
            have f2 := (HP.out.2.mac.setPc pc).fz 8210
            have k3 := ((HP.out.2.mac.setPc pc).setExit exit).halted
            have f3 := ((HP.out.2.mac.setPc pc).setExit exit).fz 8209
            have HE1 : Hid (IsMac (((wr.setCell ⟨b, 8208, none⟩ (.int .u64 (pc : Int))).setCell ⟨b, 8210, none⟩ (.int .u64 (exit : Int))).setCell ⟨b, 8209, none⟩ (.bool halted)) b (endM M pc exit halted) ∧ IsRm (((wr.setCell ⟨b, 8208, none⟩ (.int .u64 (pc : Int))).setCell ⟨b, 8210, none⟩ (.int .u64 (exit : Int))).setCell ⟨b, 8209, none⟩ (.bool halted)) r qm qr M ∧ Below w.heap.size w (((wr.setCell ⟨b, 8208, none⟩ (.int .u64 (pc : Int))).setCell ⟨b, 8210, none⟩ (.int .u64 (exit : Int))).setCell ⟨b, 8209, none⟩ (.bool halted))) := Lib.hid (by
              have g := HP.out.2
              refine ⟨((g.mac.setPc pc).setExit exit).setHalted halted, ⟨IsTab.keep (IsTab.keep (IsTab.keep g.rm.box (Ne.symm g.ne.1)) (Ne.symm g.ne.1)) (Ne.symm g.ne.1), IsTab.keep (IsTab.keep (IsTab.keep g.rm.mem (Ne.symm g.ne.2.1)) (Ne.symm g.ne.2.1)) (Ne.symm g.ne.2.1), IsTab.keep (IsTab.keep (IsTab.keep g.rm.reg (Ne.symm g.ne.2.2)) (Ne.symm g.ne.2.2)) (Ne.symm g.ne.2.2), g.rm.ne⟩, ((g.below.setCell g.ge.1 _).setCell g.ge.1 _).setCell g.ge.1 _⟩)
            go_upto_region 17 with (fail)
            clear k1 k2 k3 f1 f2 f3
            have HG := Lib.hid (And.intro HP.out.2.ge HP.out.2.ne)
            clear HP
            generalize ((wr.setCell ⟨b, 8208, none⟩ (.int .u64 (pc : Int))).setCell ⟨b, 8210, none⟩ (.int .u64 (exit : Int))).setCell ⟨b, 8209, none⟩ (.bool halted) = y3 at *
            have k1 := HE1.out.2.1.box.k2
            have f1 := HE1.out.2.1.box.f 2
            have k2 := (HE1.out.2.1.box.p2 (.int .u64 (pc : Int))).k4
            have f2 := (HE1.out.2.1.box.p2 (.int .u64 (pc : Int))).f 4
            have k3 := ((HE1.out.2.1.box.p2 (.int .u64 (pc : Int))).p4 (.int .u64 (exit : Int))).k3
            have f3 := ((HE1.out.2.1.box.p2 (.int .u64 (pc : Int))).p4 (.int .u64 (exit : Int))).f 3
            have HE2 : Hid (La w b r qm qr (endM M pc exit halted) (((y3.setCell ⟨r, 2, none⟩ (.int .u64 (pc : Int))).setCell ⟨r, 4, none⟩ (.int .u64 (exit : Int))).setCell ⟨r, 3, none⟩ (.bool halted))) := Lib.hid (by
              have g := HE1.out
              have n := HG.out.2
              have m := g.2.1.ne
              refine ⟨IsTab.keep (IsTab.keep (IsTab.keep g.1 n.1) n.1) n.1, ⟨((g.2.1.box.p2 _).p4 _).p3 _, IsTab.keep (IsTab.keep (IsTab.keep g.2.1.mem m.2.1) m.2.1) m.2.1, IsTab.keep (IsTab.keep (IsTab.keep g.2.1.reg m.2.2) m.2.2) m.2.2, m⟩, ((g.2.2.setCell HG.out.1.2.1 _).setCell HG.out.1.2.1 _).setCell HG.out.1.2.1 _, HG.out.1, n⟩)
            go_wp2_with (fail)
            exact bodyPost_ret (v := .tuple #[.pointer (some ⟨b, 0, none⟩), .pointer (some ⟨r, 0, none⟩)]) (by simp [results, Tryd.results20, go_sem]) rfl ⟨b, r, qm, qr, rfl, by rw [HM1.out, HM.out]; exact HE2.out⟩
end Co
end Go.Proofs.YtjfpbponjhpdhaaDoor
namespace Go.Proofs.YtjfpbponjhpdhaaDoor
open Go.RowKit
set_option linter.unusedVariables false
set_option linter.unusedSimpArgs false
namespace Co
open Kc Mk Vm
end Co
end Go.Proofs.YtjfpbponjhpdhaaDoor
namespace Go.Proofs.YtjfpbponjhpdhaaDoor
open Go.RowKit
set_option linter.unusedVariables false
set_option linter.unusedSimpArgs false
namespace Co
open Kc Mk Vm
/-- Words side by side as a digest. -/
def fX (g : Nat → Nat) : Hx := fun i => if i < 32 then wb (g (i / 8)) (i % 8) else 0#8
/-- The same while its first m bytes are laid. -/
def fP (g : Nat → Nat) (m : Nat) : Nat → Value := fun i => if i < m then Rl.ub (Rl.byteOf (g (i / 8)) (i % 8)) else bv 0#8
theorem fP_zero (g : Nat → Nat) : fP g 0 = fun _ => bv 0#8 := by funext i; unfold fP; rw [if_neg (by omega)]
def sel (a b c d : Nat) : Nat → Nat
  | 0 => a
  | 1 => b
  | 2 => c
  | _ => d
end Co
end Go.Proofs.YtjfpbponjhpdhaaDoor
