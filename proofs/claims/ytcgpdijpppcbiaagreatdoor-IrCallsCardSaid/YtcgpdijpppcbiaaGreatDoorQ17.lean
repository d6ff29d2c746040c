/- Merged of Evs VRst VWr. Own work. -/
import Derived.Test.YtcgpdijpppcbiaaGreatDoorQ16
import Derived.Test.YtcgpdijpppcbiaaGreatDoorQ12
import Derived.Outline
import Derived.Lib.Hide
import Derived.OpenShut
import Derived.Deep.QuietTactic
import Derived.BigQuiet
import Derived.Deep.Cut
import Derived.Deep.CutBlock
import Derived.Laws.Bits64
namespace Go.Proofs.YtcgpdijpppcbiaaGreatDoor
open Go.RowKit
set_option linter.unusedVariables false
set_option linter.unusedSimpArgs false
namespace Ir
open Kc
abbrev zR : Array Value := #[.int .u64 0, .slice none 0 0, .int .i64 0]
theorem buildZR (w : World) : (Instr.build 41 #[]).run Tryz.prog w = .ok (.agg zR) w := by kernel_rfl
theorem infRes {a b c : Value} : (Tryz.prog.info? 41).map (·.size) = some (#[a, b, c] : Array Value).size := by kernel_rfl
theorem undRes : Tryz.prog.underlying 41 = some (.struct (Tryz.prog.fieldsOf 41)) := by kernel_rfl
theorem infU : ∃ i, Tryz.prog.info? 22 = some i ∧ i.zero = some (.int .u64 0) ∧ i.size = 1 ∧ i.bytes = 8 := ⟨(Tryz.prog.info? 22).get (by kernel_rfl), by kernel_rfl, by kernel_rfl, by kernel_rfl, by kernel_rfl⟩
theorem slR (q : Nat) (w : World) : (Instr.sliceAt 80 (.pointer (some ⟨q, 2, none⟩)) none none none).run Tryz.prog w = .ok (.slice (some ⟨q, 2, none⟩) 2048 2048) w := by
  simp [go_sem, Tryz.underlying80]
set_option maxRecDepth 100000 in
theorem runCells (pa : Option Addr) (pn pc sb fuel : Nat) : ((Tryz.zeroCells82.setIfInBounds 0 (.slice pa pn pc)).setIfInBounds 1 (.pointer (some ⟨sb, 0, none⟩))).setIfInBounds 2050 (.int .i64 fuel) = tab 2054 (rc (.slice pa pn pc) (.pointer (some ⟨sb, 0, none⟩)) ⟨fun _ => 0, fuel, 0, false, 0⟩) := by kernel_rfl
theorem call0 {pv sv : Value} {prog : List Fn} {D : Nat → Prop} (rec : Sem) (hL : LstC pv sv prog D rec.lst) (s : Rs) (v : Nat) (ok : Bool) (s' : Rs) (h : stepCall prog rec 0 0 (fun _ => 0) s = some (v, ok, s'))
    (w : World) (r : Nat) (hr : IsRun w r pv sv s) (hp : SlP w D pv prog) (hD : ∀ k, D k → k < w.heap.size ∧ k ≠ r) :
    Calls Tryz.prog 32 #[.pointer (some ⟨r, 0, none⟩), .int .u64 0, .slice none 0 0] w fun e w' => e = .returned (.tuple #[.int .u64 v, .bool ok]) ∧ v < 18446744073709551616 ∧ IsRun w' r pv sv s' ∧ Kept (fun k => k = r) w w' :=
  call_walk rec hL 0 0 (fun _ => 0) s v ok s' h w r (.slice none 0 0) hr hp ⟨none, 0, rfl, by decide, .inl rfl⟩ (fun _ => (by decide : (0 : Nat) < 18446744073709551616)) hD
/-- What Eval gives. -/
def EvR (w w' : World) (v : Nat) (ok : Bool) (s' : Rs) (e : Ending) : Prop :=
  if s'.dry = true then e = .returned (.tuple #[.agg zR, .iface 57 (.int .i64 30)]) ∧ Kept (fun _ => False) w w'
  else ∃ g c, e = .returned (.tuple #[.agg #[.int .u64 (if ok = true then v else s'.exit : Nat), .slice (some ⟨g, 0, none⟩) 2048 c, .int .i64 s'.used], .nilIface]) ∧ (∀ i, i < 2048 → w'.cell? ⟨g, i, none⟩ = some (.int .u64 (s'.mem i))) ∧ Kept (fun _ => False) w w'
set_option maxHeartbeats 8000000 in
set_option maxRecDepth 100000 in
theorem eval_run (ap : Nat → Nat → Nat → Nat → Nat) (hap : ∀ k a b c, 1 ≤ k → k ≤ 25 → a < 18446744073709551616 → b < 18446744073709551616 → c < 18446744073709551616 → W1.App k a b c (ap k a b c)) (g d : Nat)
    (prog : List Fn) (hright : right prog = true) (w : World) (D : Nat → Prop) (pv : Value) (sb : Nat) (hp : SlP w D pv prog) (hD : ∀ k, D k → k < w.heap.size) (fuel : Nat) (hfuel : fuel < 4611686018427387904) (v : Nat) (ok : Bool) (s' : Rs) (hsem : stepCall prog (sem prog ap g d) 0 0 (fun _ => 0) ⟨fun _ => 0, fuel, 0, false, 0⟩ = some (v, ok, s')) :
    Calls Tryz.prog 16 #[pv, .slice none 0 0, .pointer (some ⟨sb, 0, none⟩), .int .i64 fuel] w fun e w' => EvR w w' v ok s' e := by
  have tn : decide ((fuel : Int) < 0) = false := by simp
  have HSEM := Lib.hid (And.intro hsem hfuel)
  have HAP := Lib.hid hap
  clear hsem hfuel hap
  have hk0 := kept_alloc9 w (.cells zR 41)
  have HCK := Lib.hid (check_walk prog hright _ D _ (hp.kept hk0 fun _ _ => id))
  have HRZ := Lib.hid (heap_alloc_last w (.cells zR 41))
  have HK0 := Lib.hid hk0
  have HP := Lib.hid (And.intro hp (And.intro hD hright))
  obtain ⟨pa, pn, pc, hpv⟩ : ∃ a n c, pv = .slice a n c := by obtain ⟨a, c, e, _⟩ := hp; exact ⟨a, _, c, e⟩
  subst hpv
  clear hk0 hp hD hright
  go_enter Tryz.func16, Tryz.ntmps16
  go_upto_region 1 with (fail)
  generalize w.alloc (.cells zR 41) = y0 at *
  generalize hq8 : w.heap.size = q8 at HRZ
  have HQ8 := Lib.hid hq8
  clear hq8
  go_upto_region 11 with (first
    | (go_at_call 23; (with_reducible refine HCK.out.mono ?_); rintro e y1 ⟨he, hk1⟩; obtain rfl : e = _ := he; have HK1 := Lib.hid hk1; clear hk1 HCK))
  have hcr := runCells pa pn pc sb fuel
  generalize hck : ((Tryz.zeroCells82.setIfInBounds 0 (.slice pa pn pc)).setIfInBounds 1 (.pointer (some ⟨sb, 0, none⟩))).setIfInBounds 2050 (.int .i64 fuel) = ck at *
  clear hck
  have HCK2 := Lib.hid hcr.symm
  clear hcr
  have HR0 : Hid (IsRun (y1.alloc (.cells ck 82)) y1.heap.size (.slice pa pn pc) (.pointer (some ⟨sb, 0, none⟩)) ⟨fun _ => 0, fuel, 0, false, 0⟩) := Lib.hid ⟨by rw [← HCK2.out]; exact IsTab.new y1 _ 2054 _, fun _ => (by decide : (0 : Nat) < 18446744073709551616), (by decide : (0 : Nat) < 18446744073709551616), HSEM.out.2, Nat.zero_le _⟩
  have hka := kept_alloc9 y1 (.cells ck 82)
  have HK2 := Lib.hid ((HK0.out.trans HK1.out fun _ _ h => h.elim).trans hka fun _ _ h => h.elim)
  have HR2 : Hid ((y1.alloc (.cells ck 82)).heap[q8]? = some (.cells zR 41 (0, 0))) := Lib.hid ((hka.block q8 (Nat.lt_of_lt_of_le (Array.getElem?_eq_some_iff.1 HRZ.out).1 HK1.out.size) id).trans ((HK1.out.block q8 (Array.getElem?_eq_some_iff.1 HRZ.out).1 id).trans HRZ.out))
  have HQQ0 : Hid (y1.heap.size ≠ q8 ∧ w.heap.size ≤ y1.heap.size) := Lib.hid ⟨by have := (Array.getElem?_eq_some_iff.1 HRZ.out).1; have := HK1.out.size; omega, by have := HK0.out.size; have := HK1.out.size; omega⟩
  have HC := Lib.hid (call0 (sem prog ap g d) (sem_good ap HAP.out g d).2 _ v ok s' HSEM.out.1 _ y1.heap.size HR0.out (HP.out.1.kept HK2.out fun _ _ => id) fun k hk => ⟨Nat.lt_of_lt_of_le (HP.out.2.1 k hk) HK2.out.size, by have := HP.out.2.1 k hk; have := HQQ0.out.2; omega⟩)
  clear hka HK0 HK1 HRZ
  generalize y1.alloc (.cells ck 82) = y4 at *
  generalize y1.heap.size = q at *
  have s4 := slR q
  go_upto_region 12 with (refine wpList_copy_nothing rfl (.tmp 41) (.tmp 42) 39 39 rfl 22 und64 size64 (some ⟨q, 2, none⟩) none 2048 2048 0 0 rfl rfl rfl ?_)
  clear s4
  cases hdry : s'.dry with
  | true =>
    go_upto_region 14 with (go_at_call 32; (with_reducible refine HC.out.mono ?_); rintro e y5 ⟨he, hx5, hr5, hk5⟩; obtain rfl : e = _ := he; have H5 := Lib.hid (And.intro hx5 (And.intro hr5 (And.intro ((hk5.block q8 (Array.getElem?_eq_some_iff.1 HR2.out).1 (fun e => HQQ0.out.1 e.symm)).trans HR2.out) (HK2.out.trans hk5 fun k hk e => by have := HQQ0.out.2; omega)))); have kd := hr5.dr; rw [hdry] at kd; clear hx5 hr5 hk5 HC)
    go_wp2_with (first
      | ((with_reducible refine wpList_buildN (P := Tryz.prog) (w := y5) ?_ 41 ?_ (.agg zR) (buildZR y5) ?_); (· exact rfl); (· exact rfl))
      | ((with_reducible refine wpList_store_row (P := Tryz.prog) (w := y5) ?_ 41 (.tmp 8) (.tmp 53) ?_ q8 zR ?_ ?_ 41 zR H5.out.2.2.1 infRes rfl (by simp [Value.oneCell']) ?_); (· exact rfl); (· exact rfl); (· exact rfl); (· exact rfl)))
    have hrow := setRow_heap y5 q8 zR zR 41 (0, 0) H5.out.2.2.1
    have hkr : Kept (fun k => k = q8) y5 (y5.setRow q8 zR) := ⟨by simp, by simp, by simp, by simp, fun k hk hn => setRow_other y5 q8 k _ hn⟩
    refine bodyPost_ret (Kc.results_cell_tmp rfl _ _ q8 41 _ (0, 0) _ rfl hrow undRes rfl infRes (.iface 57 (.int .i64 30)) rfl) rfl ?_
    unfold EvR
    rw [if_pos hdry]
    exact ⟨rfl, H5.out.2.2.2.trans hkr fun k hk e => by have := HQ8.out; omega⟩
  | false =>
    cases ok with
    | true =>
      go_upto_region 16 with (go_at_call 32; (with_reducible refine HC.out.mono ?_); rintro e y5 ⟨he, hx5, hr5, hk5⟩; obtain rfl : e = _ := he; have H5 := Lib.hid (And.intro hx5 (And.intro hr5 (And.intro ((hk5.block q8 (Array.getElem?_eq_some_iff.1 HR2.out).1 (fun e => HQQ0.out.1 e.symm)).trans HR2.out) (HK2.out.trans hk5 fun k hk e => by have := HQQ0.out.2; omega)))); have kd := hr5.dr; rw [hdry] at kd; clear hx5 hr5 hk5 HC)
      have ke := H5.out.2.1.ex
      have fe := H5.out.2.1.fz 2053
      have HE6 := Lib.hid (H5.out.2.1.setExit H5.out.1)
      have hks : Kept (fun k => k = q) y5 (y5.setCell ⟨q, 2053, none⟩ (.int .u64 v)) := (Kept.refl (fun k => k = q) y5).setCell (.inl rfl) _
      have H6 := Lib.hid (And.intro HE6.out (And.intro ((hks.block q8 (Array.getElem?_eq_some_iff.1 H5.out.2.2.1).1 (fun e => HQQ0.out.1 e.symm)).trans H5.out.2.2.1) (H5.out.2.2.2.trans hks fun k hk e => by have := HQQ0.out.2; omega)))
      clear hks
      go_upto_region 17 with (fail)
      clear ke fe HE6 H5
      generalize y5.setCell ⟨q, 2053, none⟩ (.int .u64 v) = y6 at *
      have HQQ : Hid (q ≠ q8 ∧ ∀ g, g ≠ q8 → g ≠ q8) := Lib.hid ⟨HQQ0.out.1, fun _ h => h⟩
      have HI2 := Lib.hid infU
      refine wp_region_og (fun z : World => IsRun z q (.slice pa pn pc) (.pointer (some ⟨sb, 0, none⟩)) (s'.ends v)) (.take 0 (.take 1 (.take 2 (.take 3 (.take 4 (.take 5 (.take 6 (.take 7 (.take 9 (.take 10 (.take 11 (.take 12 (.one 8 (.take 13 (.one 14 (.take 15 .done)))))))))))))))) (by kernel_rfl) (by kernel_rfl) (H6.out.1.kept (kept_drew9 y6) id) ?_
      have H7 := Lib.hid (And.intro (H6.out.1.kept (kept_drew9 y6) id) (And.intro (show y6.drew.heap[q8]? = some (.cells zR 41 (0, 0)) from H6.out.2.1) (H6.out.2.2.trans (kept_drew9 y6) fun _ _ h => h.elim)))
      have s7 := slR q
      clear H6
      generalize y6.drew = y7 at *
      refine og_tk (some 60) (.pointer (some ⟨q, 0, none⟩)) rfl rfl (by go_simp) (fun _ _ => by simp [execOp, go_sem]) ?_
      simp only [Act.put, pS]
      refine og_tk (some 61) (.pointer (some ⟨q, 0, none⟩)) rfl rfl (by go_simp) (fun _ _ => by simp [execOp, go_sem]) ?_
      simp only [Act.put, pS]
      refine og_tk (some 62) (.pointer (some ⟨q, 2053, none⟩)) rfl rfl (by go_simp) (fun _ _ => by simp [execOp, go_sem]) ?_
      simp only [Act.put, pS]
      refine og_ld (some 63) 22 (.tmp 62) (.pointer (some ⟨q, 2053, none⟩)) (.int .u64 v) rfl rfl (by go_simp) rfl rfl (fun y hy => by have h := hy.ex; (try simp only [Rs.ends] at h); simp [Instr.loadAt, go_sem, h, Tryz.underlying22]) ?_
      simp only [Act.put, pS]
      refine og_tk (some 64) (.pointer (some ⟨q, 0, none⟩)) rfl rfl (by go_simp) (fun _ _ => by simp [execOp, go_sem]) ?_
      simp only [Act.put, pS]
      refine og_tk (some 65) (.pointer (some ⟨q, 0, none⟩)) rfl rfl (by go_simp) (fun _ _ => by simp [execOp, go_sem]) ?_
      simp only [Act.put, pS]
      refine og_tk (some 66) (.pointer (some ⟨q, 2, none⟩)) rfl rfl (by go_simp) (fun _ _ => by simp [execOp, go_sem]) ?_
      simp only [Act.put, pS]
      refine og_tk (some 67) (.slice (some ⟨q, 2, none⟩) 2048 2048) rfl rfl (by go_simp) (fun y hy => by have h := s7 y; simp [execOp, go_sem, h, Result.andThen]) ?_
      simp only [Act.put, pS]
      refine og_tk (some 69) (.pointer (some ⟨q, 0, none⟩)) rfl rfl (by go_simp) (fun _ _ => by simp [execOp, go_sem]) ?_
      simp only [Act.put, pS]
      refine og_tk (some 70) (.pointer (some ⟨q, 0, none⟩)) rfl rfl (by go_simp) (fun _ _ => by simp [execOp, go_sem]) ?_
      simp only [Act.put, pS]
      refine og_tk (some 71) (.pointer (some ⟨q, 2051, none⟩)) rfl rfl (by go_simp) (fun _ _ => by simp [execOp, go_sem]) ?_
      simp only [Act.put, pS]
      refine og_ld (some 72) 3 (.tmp 71) (.pointer (some ⟨q, 2051, none⟩)) (.int .i64 s'.used) rfl rfl (by go_simp) rfl rfl (fun y hy => by have h := hy.us; (try simp only [Rs.ends] at h); simp [Instr.loadAt, go_sem, h, Tryz.underlying3]) ?_
      simp only [Act.put, pS]
      refine og_f rfl (by go_simp) fun K hK => ?_
      obtain ⟨i0, hi1, hi2, hi3, hi4⟩ := HI2.out
      refine wp_append_own (w := y7) (.const (.slice none 0 0)) (.tmp 67) 39 rfl y7.heap.size 22 i0 (.int .u64 0) 1 8 und64 hi1 hi2 hi3 hi4 rfl (by decide) (.slice none 0 0) 0 [] rfl (World.ownsRow_nil _ _ _ _) ⟨q, 2, none⟩ 2048 2048 ((List.range 2048).map fun i => .int .u64 (s'.mem i)) rfl (by rw [List.length_map, List.length_range]) (fun j u hu => by obtain ⟨hj, rfl⟩ := List.getElem?_eq_some_iff.1 hu; simp only [List.length_map, List.length_range] at hj; rw [add_at]; simpa [Rs.ends] using H7.out.1.m hj) (fun u hu => by obtain ⟨j, _, rfl⟩ := List.mem_map.1 hu; rfl) (by decide) (by decide) (Nat.le_refl _) fun v' y8 hown hgr _ => ?_
      have hk8 : Kept (fun _ => False) y7 y8 := Kept.grown (Kept.refl _ _) hgr (fun k h => by cases h)
      have hq8 : q8 < y7.heap.size := (Array.getElem?_eq_some_iff.1 H7.out.2.1).1
      have H8 := Lib.hid (And.intro (H7.out.1.kept hk8 id) (And.intro ((hk8.block q8 hq8 id).trans H7.out.2.1) (And.intro (H7.out.2.2.trans hk8 fun _ _ h => h.elim) hown)))
      refine hK _ _ H8.out.1 ?_
      obtain ⟨g8, c8, rfl, hg8⟩ : ∃ g c, v' = .slice (some ⟨g, 0, none⟩) 2048 c ∧ ∀ i, i < 2048 → y8.cell? ⟨g, i, none⟩ = some (.int .u64 (s'.mem i)) := by
        rcases ownsRow_forms hown with ⟨_, h0⟩ | ⟨g, c, rfl, _⟩
        · simp at h0
        · refine ⟨g, c, rfl, fun i hi => ?_⟩
          have := hown.cells (g := g) rfl i (.int .u64 (s'.mem i)) (by simp [hi])
          rwa [add_at, Nat.zero_add] at this
      have HG8 := Lib.hid (And.intro hg8 (show ¬ g8 = q8 from fun e => by have h1 := owns_base hown (k := g8) rfl; omega))
      clear hK K hown hgr hk8 hg8 H7 HI2 hi1 hi2 hi3 hi4
      simp only [Act.put, pS]
      refine og_tk (some 73) (.agg #[.int .u64 v, .slice (some ⟨g8, 0, none⟩) 2048 c8, .int .i64 s'.used]) rfl rfl (by go_simp) (fun _ _ => by simp [execOp, go_sem]) ?_
      simp only [Act.put, pS]
      refine og_f rfl (by go_simp) fun K hK => ?_
      refine wp_store_row 41 (.tmp 8) (.tmp 73) rfl q8 #[.int .u64 v, .slice (some ⟨g8, 0, none⟩) 2048 c8, .int .i64 s'.used] rfl rfl 41 zR H8.out.2.1 infRes rfl (by simp [Value.oneCell']) ?_
      have hrow := setRow_heap y8 q8 zR #[.int .u64 v, .slice (some ⟨g8, 0, none⟩) 2048 c8, .int .i64 s'.used] 41 (0, 0) H8.out.2.1
      have hkr : Kept (fun k => k = q8) y8 (y8.setRow q8 #[.int .u64 v, .slice (some ⟨g8, 0, none⟩) 2048 c8, .int .i64 s'.used]) := ⟨by simp, by simp, by simp, by simp, fun k hk hn => setRow_other y8 q8 k _ hn⟩
      have H9 := Lib.hid (And.intro hrow (And.intro (H8.out.1.kept hkr HQQ.out.1) (And.intro (H8.out.2.2.1.trans hkr fun k hk h => by have := HQ8.out; omega) (fun i hi => hkr.cell (fun e => HG8.out.2 e) (HG8.out.1 i hi)))))
      refine hK _ _ H9.out.2.1 ?_
      clear hK K hrow hkr
      simp only [Act.put, pS]
      refine og_tk (some 9) (.nilIface) rfl rfl (by go_simp) (fun _ _ => by simp [execOp, go_sem]) ?_
      simp only [Act.put, pS]
      refine og_done (NoPanic.normal ?_)
      go_wp2_with (fail)
      refine bodyPost_ret (Kc.results_cell_tmp rfl _ _ q8 41 _ (0, 0) _ rfl H9.out.1 undRes rfl infRes .nilIface rfl) rfl ?_
      unfold EvR
      rw [if_neg (by rw [hdry]; decide)]
      exact ⟨g8, c8, rfl, H9.out.2.2.2, H9.out.2.2.1⟩
    | false =>
      go_upto_region 17 with (go_at_call 32; (with_reducible refine HC.out.mono ?_); rintro e y5 ⟨he, hx5, hr5, hk5⟩; obtain rfl : e = _ := he; have H5 := Lib.hid (And.intro hx5 (And.intro hr5 (And.intro ((hk5.block q8 (Array.getElem?_eq_some_iff.1 HR2.out).1 (fun e => HQQ0.out.1 e.symm)).trans HR2.out) (HK2.out.trans hk5 fun k hk e => by have := HQQ0.out.2; omega)))); have kd := hr5.dr; rw [hdry] at kd; clear hx5 hr5 hk5 HC)
      have H6 := Lib.hid (And.intro H5.out.2.1 (And.intro H5.out.2.2.1 H5.out.2.2.2))
      clear H5
      generalize y5 = y6 at *
      have HQQ : Hid (q ≠ q8 ∧ ∀ g, g ≠ q8 → g ≠ q8) := Lib.hid ⟨HQQ0.out.1, fun _ h => h⟩
      have HI2 := Lib.hid infU
      refine wp_region_og (fun z : World => IsRun z q (.slice pa pn pc) (.pointer (some ⟨sb, 0, none⟩)) s') (.take 0 (.take 1 (.take 2 (.take 3 (.take 4 (.take 5 (.take 6 (.take 7 (.take 9 (.take 10 (.take 11 (.take 12 (.one 8 (.take 13 (.one 14 (.take 15 .done)))))))))))))))) (by kernel_rfl) (by kernel_rfl) (H6.out.1.kept (kept_drew9 y6) id) ?_
      have H7 := Lib.hid (And.intro (H6.out.1.kept (kept_drew9 y6) id) (And.intro (show y6.drew.heap[q8]? = some (.cells zR 41 (0, 0)) from H6.out.2.1) (H6.out.2.2.trans (kept_drew9 y6) fun _ _ h => h.elim)))
      have s7 := slR q
      clear H6
      generalize y6.drew = y7 at *
      refine og_tk (some 60) (.pointer (some ⟨q, 0, none⟩)) rfl rfl (by go_simp) (fun _ _ => by simp [execOp, go_sem]) ?_
      simp only [Act.put, pS]
      refine og_tk (some 61) (.pointer (some ⟨q, 0, none⟩)) rfl rfl (by go_simp) (fun _ _ => by simp [execOp, go_sem]) ?_
      simp only [Act.put, pS]
      refine og_tk (some 62) (.pointer (some ⟨q, 2053, none⟩)) rfl rfl (by go_simp) (fun _ _ => by simp [execOp, go_sem]) ?_
      simp only [Act.put, pS]
      refine og_ld (some 63) 22 (.tmp 62) (.pointer (some ⟨q, 2053, none⟩)) (.int .u64 s'.exit) rfl rfl (by go_simp) rfl rfl (fun y hy => by have h := hy.ex; (try simp only [Rs.ends] at h); simp [Instr.loadAt, go_sem, h, Tryz.underlying22]) ?_
      simp only [Act.put, pS]
      refine og_tk (some 64) (.pointer (some ⟨q, 0, none⟩)) rfl rfl (by go_simp) (fun _ _ => by simp [execOp, go_sem]) ?_
      simp only [Act.put, pS]
      refine og_tk (some 65) (.pointer (some ⟨q, 0, none⟩)) rfl rfl (by go_simp) (fun _ _ => by simp [execOp, go_sem]) ?_
      simp only [Act.put, pS]
      refine og_tk (some 66) (.pointer (some ⟨q, 2, none⟩)) rfl rfl (by go_simp) (fun _ _ => by simp [execOp, go_sem]) ?_
      simp only [Act.put, pS]
      refine og_tk (some 67) (.slice (some ⟨q, 2, none⟩) 2048 2048) rfl rfl (by go_simp) (fun y hy => by have h := s7 y; simp [execOp, go_sem, h, Result.andThen]) ?_
      simp only [Act.put, pS]
      refine og_tk (some 69) (.pointer (some ⟨q, 0, none⟩)) rfl rfl (by go_simp) (fun _ _ => by simp [execOp, go_sem]) ?_
      simp only [Act.put, pS]
      refine og_tk (some 70) (.pointer (some ⟨q, 0, none⟩)) rfl rfl (by go_simp) (fun _ _ => by simp [execOp, go_sem]) ?_
      simp only [Act.put, pS]
      refine og_tk (some 71) (.pointer (some ⟨q, 2051, none⟩)) rfl rfl (by go_simp) (fun _ _ => by simp [execOp, go_sem]) ?_
      simp only [Act.put, pS]
      refine og_ld (some 72) 3 (.tmp 71) (.pointer (some ⟨q, 2051, none⟩)) (.int .i64 s'.used) rfl rfl (by go_simp) rfl rfl (fun y hy => by have h := hy.us; (try simp only [Rs.ends] at h); simp [Instr.loadAt, go_sem, h, Tryz.underlying3]) ?_
      simp only [Act.put, pS]
      refine og_f rfl (by go_simp) fun K hK => ?_
      obtain ⟨i0, hi1, hi2, hi3, hi4⟩ := HI2.out
      refine wp_append_own (w := y7) (.const (.slice none 0 0)) (.tmp 67) 39 rfl y7.heap.size 22 i0 (.int .u64 0) 1 8 und64 hi1 hi2 hi3 hi4 rfl (by decide) (.slice none 0 0) 0 [] rfl (World.ownsRow_nil _ _ _ _) ⟨q, 2, none⟩ 2048 2048 ((List.range 2048).map fun i => .int .u64 (s'.mem i)) rfl (by rw [List.length_map, List.length_range]) (fun j u hu => by obtain ⟨hj, rfl⟩ := List.getElem?_eq_some_iff.1 hu; simp only [List.length_map, List.length_range] at hj; rw [add_at]; simpa [Rs.ends] using H7.out.1.m hj) (fun u hu => by obtain ⟨j, _, rfl⟩ := List.mem_map.1 hu; rfl) (by decide) (by decide) (Nat.le_refl _) fun v' y8 hown hgr _ => ?_
      have hk8 : Kept (fun _ => False) y7 y8 := Kept.grown (Kept.refl _ _) hgr (fun k h => by cases h)
      have hq8 : q8 < y7.heap.size := (Array.getElem?_eq_some_iff.1 H7.out.2.1).1
      have H8 := Lib.hid (And.intro (H7.out.1.kept hk8 id) (And.intro ((hk8.block q8 hq8 id).trans H7.out.2.1) (And.intro (H7.out.2.2.trans hk8 fun _ _ h => h.elim) hown)))
      refine hK _ _ H8.out.1 ?_
      obtain ⟨g8, c8, rfl, hg8⟩ : ∃ g c, v' = .slice (some ⟨g, 0, none⟩) 2048 c ∧ ∀ i, i < 2048 → y8.cell? ⟨g, i, none⟩ = some (.int .u64 (s'.mem i)) := by
        rcases ownsRow_forms hown with ⟨_, h0⟩ | ⟨g, c, rfl, _⟩
        · simp at h0
        · refine ⟨g, c, rfl, fun i hi => ?_⟩
          have := hown.cells (g := g) rfl i (.int .u64 (s'.mem i)) (by simp [hi])
          rwa [add_at, Nat.zero_add] at this
      have HG8 := Lib.hid (And.intro hg8 (show ¬ g8 = q8 from fun e => by have h1 := owns_base hown (k := g8) rfl; omega))
      clear hK K hown hgr hk8 hg8 H7 HI2 hi1 hi2 hi3 hi4
      simp only [Act.put, pS]
      refine og_tk (some 73) (.agg #[.int .u64 s'.exit, .slice (some ⟨g8, 0, none⟩) 2048 c8, .int .i64 s'.used]) rfl rfl (by go_simp) (fun _ _ => by simp [execOp, go_sem]) ?_
      simp only [Act.put, pS]
      refine og_f rfl (by go_simp) fun K hK => ?_
      refine wp_store_row 41 (.tmp 8) (.tmp 73) rfl q8 #[.int .u64 s'.exit, .slice (some ⟨g8, 0, none⟩) 2048 c8, .int .i64 s'.used] rfl rfl 41 zR H8.out.2.1 infRes rfl (by simp [Value.oneCell']) ?_
      have hrow := setRow_heap y8 q8 zR #[.int .u64 s'.exit, .slice (some ⟨g8, 0, none⟩) 2048 c8, .int .i64 s'.used] 41 (0, 0) H8.out.2.1
      have hkr : Kept (fun k => k = q8) y8 (y8.setRow q8 #[.int .u64 s'.exit, .slice (some ⟨g8, 0, none⟩) 2048 c8, .int .i64 s'.used]) := ⟨by simp, by simp, by simp, by simp, fun k hk hn => setRow_other y8 q8 k _ hn⟩
      have H9 := Lib.hid (And.intro hrow (And.intro (H8.out.1.kept hkr HQQ.out.1) (And.intro (H8.out.2.2.1.trans hkr fun k hk h => by have := HQ8.out; omega) (fun i hi => hkr.cell (fun e => HG8.out.2 e) (HG8.out.1 i hi)))))
      refine hK _ _ H9.out.2.1 ?_
      clear hK K hrow hkr
      simp only [Act.put, pS]
      refine og_tk (some 9) (.nilIface) rfl rfl (by go_simp) (fun _ _ => by simp [execOp, go_sem]) ?_
      simp only [Act.put, pS]
      refine og_done (NoPanic.normal ?_)
      go_wp2_with (fail)
      refine bodyPost_ret (Kc.results_cell_tmp rfl _ _ q8 41 _ (0, 0) _ rfl H9.out.1 undRes rfl infRes .nilIface rfl) rfl ?_
      unfold EvR
      rw [if_neg (by rw [hdry]; decide)]
      exact ⟨g8, c8, rfl, H9.out.2.2.2, H9.out.2.2.1⟩
end Ir
end Go.Proofs.YtcgpdijpppcbiaaGreatDoor
namespace Go.Proofs.YtcgpdijpppcbiaaGreatDoor
open Go.RowKit
set_option linter.unusedVariables false
namespace W1
set_option maxHeartbeats 1000000 in
theorem refRest_any (h l n : Nat) (w : World) (hh : h < 18446744073709551616) (hl : l < 18446744073709551616) (hn : 0 < n) (hn2 : n < 18446744073709551616) :
    Calls Tryz.prog 21 #[.int .u64 h, .int .u64 l, .int .u64 n] w fun e w' => e = .returned (.tuple #[.int .u64 (((h * 18446744073709551616 + l) / n % 18446744073709551616 : Nat) : Int), .int .u64 (((h * 18446744073709551616 + l) % n : Nat) : Int)]) ∧ w = w' := by
  obtain ⟨N, hN⟩ : ∃ N, h * 18446744073709551616 + l = N := ⟨_, rfl⟩
  have HN := Lib.hid hN
  rw [hN]
  have hst : RS N n 128 (.int .u64 0) (.int .u64 0) := by
    have : N / 2 ^ 128 = 0 := Nat.div_eq_of_lt (by rw [← hN]; omega)
    unfold RS; rw [this]; simp
  have HST := Lib.hid hst
  have HH := Lib.hid (And.intro hh (And.intro hl (And.intro hn hn2)))
  clear hN hst hh hl hn hn2
  go_enter Tryz.func21, Tryz.ntmps21
  go_wp2
  go_loop [8, 9, 10] (fun q r i => ∃ (z : Int) (k : Nat), Hid (z = (k : Int) - 1 ∧ RS N n k q r) ∧ -1 ≤ z ∧ z ≤ 127 ∧ i = .int .i64 z) (fun _ _ i => (intOf i + 1).toNat)
  case atStart => exact ⟨127, 128, Lib.hid ⟨rfl, HST.out⟩, by decide, by decide, rfl⟩
  case round =>
    obtain ⟨z, k, HR, hz1, hz2, rfl⟩ := hrel
    obtain ⟨hzk, hq, hr⟩ := HR.out
    subst hq hr
    have HZ := Lib.hid hzk
    clear HR hzk
    by_cases hz : 0 ≤ z
    · obtain ⟨j, rfl⟩ : ∃ j : Nat, z = j := ⟨z.toNat, by omega⟩
      have hk : k = j + 1 := by have := HZ.out; omega
      have HK := Lib.hid hk
      have hjn : j ≤ 127 := by omega
      clear hk HZ
      obtain ⟨β, hβ⟩ : ∃ β : Nat, N / 2 ^ j % 2 = β := ⟨_, rfl⟩
      have hβ2 : β < 2 := by omega
      have HB := Lib.hid hβ
      clear hβ
      by_cases h64 : (64 : Int) ≤ (j : Int)
      case' pos =>
        obtain ⟨m, hm⟩ : ∃ m : Nat, (j : Int) - 64 = (m : Int) := ⟨j - 64, by omega⟩
        have hd0 : h / 2 ^ m < 18446744073709551616 := Nat.lt_of_le_of_lt (Nat.div_le_self _ _) HH.out.1
        have hd1 : ((h / 2 ^ m : Nat) : Int) = (h : Int) / 2 ^ m := by rw [Int.natCast_ediv, Int.natCast_pow]; rfl
        have a1 := and_one_u64 ((h : Int) / 2 ^ m) (by rw [← hd1]; exact Int.natCast_nonneg _) (by rw [← hd1]; exact nat_le_u64 hd0)
        have HV : Hid ((h : Int) / 2 ^ m % 2 = (β : Int)) := Lib.hid (by
          rw [← hd1, ← HB.out, ← HN.out, show j = m + 64 from by omega]
          have := Dv.bit_hi (h := h) (l := l) (i := m + 64) HH.out.2.1 (by omega)
          rw [Nat.add_sub_cancel] at this
          rw [show (18446744073709551616 : Nat) = 2 ^ 64 from by decide, this]
          omega)
        clear hd0 hd1
        go_upto_region 9 with (fail)
        rw [HV.out]
        clear a1 hm h64 HV
      case' neg =>
        have hd0 : l / 2 ^ j < 18446744073709551616 := Nat.lt_of_le_of_lt (Nat.div_le_self _ _) HH.out.2.1
        have hd1 : ((l / 2 ^ j : Nat) : Int) = (l : Int) / 2 ^ j := by rw [Int.natCast_ediv, Int.natCast_pow]; rfl
        have a1 := and_one_u64 ((l : Int) / 2 ^ j) (by rw [← hd1]; exact Int.natCast_nonneg _) (by rw [← hd1]; exact nat_le_u64 hd0)
        have HV : Hid ((l : Int) / 2 ^ j % 2 = (β : Int)) := Lib.hid (by
          rw [← hd1, ← HB.out, ← HN.out]
          have := Dv.bit_lo (h := h) (l := l) (i := j) (by omega)
          rw [show (18446744073709551616 : Nat) = 2 ^ 64 from by decide, this]
          omega)
        clear hd0 hd1
        go_upto_region 9 with (fail)
        rw [HV.out]
        clear a1 h64 HV
      all_goals
        have hbs := Dv.bit_step (t := N / 2 ^ k) (b := β) (n := n) HH.out.2.2.1 hβ2
        have htp := Dv.top_step N j
        rw [HB.out, ← HK.out] at htp
        rw [← htp] at hbs
        have HS := Lib.hid hbs
        have hRn := Nat.mod_lt (N / 2 ^ k) HH.out.2.2.1
        have hn2 := HH.out.2.2.2
        generalize N / 2 ^ k % n = R at *
        generalize N / 2 ^ k / n = Q0 at *
        have hQ : Q0 % 18446744073709551616 < 18446744073709551616 := Nat.mod_lt _ (by decide)
        have HQ := Lib.hid (show 2 * Q0 % 18446744073709551616 = (2 * (Q0 % 18446744073709551616)) % 18446744073709551616 by omega)
        generalize Q0 % 18446744073709551616 = Q at *
        clear hbs htp
        have hRI : (R : Int) ≤ 18446744073709551615 := by omega
        have hQI : (Q : Int) ≤ 18446744073709551615 := by omega
        have hnI : (n : Int) ≤ 18446744073709551615 := by omega
        have hRnI : (R : Int) < (n : Int) := by omega
        clear hn2 hQ hRn
        by_cases htop : (R : Int) / 9223372036854775808 = 1
        · have ht : ((R : Int) / 9223372036854775808 == 1) = true := by simpa using htop
          have hge : n ≤ 2 * R + β := by omega
          rw [if_pos hge, if_pos hge] at HS
          obtain ⟨A, hA⟩ : ∃ A : Nat, IntKind.u64.wrap ((R : Int) * 2) = (A : Int) := ⟨2 * R - 18446744073709551616, by rw [IntKind.wrap_u64]; omega⟩
          have hA2 : A = 2 * R - 18446744073709551616 ∧ 9223372036854775808 ≤ R := by rw [IntKind.wrap_u64] at hA; omega
          obtain ⟨P, hP⟩ : ∃ P : Nat, IntKind.u64.wrap ((Q : Int) * 2) = (P : Int) := ⟨2 * Q % 18446744073709551616, by rw [IntKind.wrap_u64]; omega⟩
          have hP2 : P = 2 * Q % 18446744073709551616 := by rw [IntKind.wrap_u64] at hP; omega
          have ho : Go.bits .or .u64 (A : Int) (β : Int) = (A : Int) + β := or_bit _ _ (by omega) (by omega) (by omega) (by omega) (by omega)
          have hp : Go.bits .or .u64 (P : Int) 1 = (P : Int) + 1 := or_bit _ _ (by omega) (by omega) (by omega) (by omega) (by omega)
          obtain ⟨G, hG⟩ : ∃ G : Nat, IntKind.u64.wrap ((A : Int) + β - n) = (G : Int) := ⟨2 * R + β - n, by rw [IntKind.wrap_u64]; omega⟩
          have hG2 : G = 2 * R + β - n := by rw [IntKind.wrap_u64] at hG; omega
          have HE : Hid (RS N n j (.int .u64 ((P : Int) + 1)) (.int .u64 (G : Int))) := Lib.hid (by
            unfold RS
            rw [HS.out.1, HS.out.2, hG2]
            have := HQ.out
            refine ⟨?_, rfl⟩
            have e : ((2 * Q0 + 1) % 18446744073709551616 : Nat) = P + 1 := by omega
            rw [e]; rfl)
          have hAI : (A : Int) ≤ 18446744073709551614 := by omega
          have hbI : (β : Int) ≤ 1 := by omega
          have hPI : (P : Int) ≤ 18446744073709551614 := by omega
          clear hA2 hP2 hG2 hge htop HS HQ hQI hRI
          go_wp2
          go_round
          case rel => exact ⟨(j : Int) - 1, j, Lib.hid ⟨rfl, HE.out⟩, by omega, by omega, rfl⟩
          case measure => first | (simp [intOf]; done) | (simp [intOf]; omega)
        · have ht : ((R : Int) / 9223372036854775808 == 1) = false := by simpa using htop
          have hRs : (R : Int) < 9223372036854775808 := by omega
          obtain ⟨P, hP⟩ : ∃ P : Nat, IntKind.u64.wrap ((Q : Int) * 2) = (P : Int) := ⟨2 * Q % 18446744073709551616, by rw [IntKind.wrap_u64]; omega⟩
          have hP2 : P = 2 * Q % 18446744073709551616 := by rw [IntKind.wrap_u64] at hP; omega
          have ho : Go.bits .or .u64 ((R : Int) * 2) (β : Int) = (R : Int) * 2 + β := or_bit _ _ (by omega) (by omega) (by omega) (by omega) (by omega)
          have hp : Go.bits .or .u64 (P : Int) 1 = (P : Int) + 1 := or_bit _ _ (by omega) (by omega) (by omega) (by omega) (by omega)
          have hPI : (P : Int) ≤ 18446744073709551614 := by omega
          have hbI : (β : Int) ≤ 1 := by omega
          by_cases hge : n ≤ 2 * R + β
          · rw [if_pos hge, if_pos hge] at HS
            have hgeI : (n : Int) ≤ (R : Int) * 2 + (β : Int) := by omega
            have HE : Hid (RS N n j (.int .u64 ((P : Int) + 1)) (.int .u64 ((R : Int) * 2 + β - n))) := Lib.hid (by
              unfold RS
              rw [HS.out.1, HS.out.2]
              have := HQ.out
              have e : ((2 * Q0 + 1) % 18446744073709551616 : Nat) = P + 1 := by omega
              rw [e]
              have e2 : ((2 * R + β - n : Nat) : Int) = (R : Int) * 2 + β - n := by omega
              rw [e2]
              exact ⟨rfl, rfl⟩)
            clear hP2 hge htop HS HQ hQI
            go_wp2
            go_round
            case rel => exact ⟨(j : Int) - 1, j, Lib.hid ⟨rfl, HE.out⟩, by omega, by omega, rfl⟩
            case measure => first | (simp [intOf]; done) | (simp [intOf]; omega)
          · rw [if_neg hge, if_neg hge] at HS
            have hgeI : decide ((n : Int) ≤ (R : Int) * 2 + (β : Int)) = false := by rw [decide_eq_false_iff_not]; omega
            have HE : Hid (RS N n j (.int .u64 (P : Int)) (.int .u64 ((R : Int) * 2 + β))) := Lib.hid (by
              unfold RS
              rw [HS.out.1, HS.out.2]
              have := HQ.out
              have e : ((2 * Q0 + 0) % 18446744073709551616 : Nat) = P := by omega
              rw [e]
              have e2 : ((2 * R + β : Nat) : Int) = (R : Int) * 2 + β := by omega
              rw [e2]
              exact ⟨rfl, rfl⟩)
            clear hP2 hge htop HS HQ hQI
            go_wp2
            go_round
            case rel => exact ⟨(j : Int) - 1, j, Lib.hid ⟨rfl, HE.out⟩, by omega, by omega, rfl⟩
            case measure => first | (simp [intOf]; done) | (simp [intOf]; omega)
    · have hk0 : k = 0 := by have := HZ.out; omega
      subst hk0
      rw [Nat.pow_zero, Nat.div_one]
      go_wp2
      go_ret2
      exact ⟨rfl, rfl⟩
end W1
end Go.Proofs.YtcgpdijpppcbiaaGreatDoor
namespace Go.Proofs.YtcgpdijpppcbiaaGreatDoor
open Go.RowKit
set_option linter.unusedVariables false
namespace W1
theorem refWide_any (a b : Nat) (w : World) (ha : a < 18446744073709551616) (hb : b < 18446744073709551616) :
    Calls Tryz.prog 18 #[.int .u64 a, .int .u64 b] w fun e w' => e = .returned (.tuple #[.int .u64 ((a * b / 18446744073709551616 : Nat) : Int), .int .u64 ((a * b % 18446744073709551616 : Nat) : Int)]) ∧ w = w' := by
  obtain ⟨h1, h2, h3, h4, h5, h6, h7⟩ := Dv.wide_words a b ha hb
  have hHb : a * b / 18446744073709551616 < 18446744073709551616 := Nat.div_lt_of_lt_mul (Nat.mul_lt_mul'' ha hb)
  obtain ⟨H, hH⟩ : ∃ H, a * b / 18446744073709551616 = H := ⟨_, rfl⟩
  rw [hH] at hHb
  obtain ⟨Lw, hLw⟩ : ∃ H, a * b % 18446744073709551616 = H := ⟨_, rfl⟩
  rw [hH] at h6 ⊢
  rw [hLw] at h7 ⊢
  have ma := and_mask (a : Int) (by omega) (by omega)
  have mb := and_mask (b : Int) (by omega) (by omega)
  obtain ⟨a0, ea0⟩ : ∃ z, a % 4294967296 = z := ⟨_, rfl⟩
  obtain ⟨a1, ea1⟩ : ∃ z, a / 4294967296 = z := ⟨_, rfl⟩
  obtain ⟨b0, eb0⟩ : ∃ z, b % 4294967296 = z := ⟨_, rfl⟩
  obtain ⟨b1, eb1⟩ : ∃ z, b / 4294967296 = z := ⟨_, rfl⟩
  have ia0 : (a : Int) % 4294967296 = (a0 : Int) := by omega
  have ia1 : (a : Int) / 4294967296 = (a1 : Int) := by omega
  have ib0 : (b : Int) % 4294967296 = (b0 : Int) := by omega
  have ib1 : (b : Int) / 4294967296 = (b1 : Int) := by omega
  rw [ia0] at ma
  rw [ib0] at mb
  rw [ea0, eb0] at h1
  rw [ea0, ea1, eb0] at h2
  rw [ea0, ea1, eb0, eb1] at h3 h6 h7
  rw [ea1, eb1] at h4
  rw [ea0, ea1, eb0, eb1] at h5
  obtain ⟨p00, e00⟩ : ∃ z, a0 * b0 = z := ⟨_, rfl⟩
  obtain ⟨p10, e10⟩ : ∃ z, a1 * b0 = z := ⟨_, rfl⟩
  obtain ⟨p01, e01⟩ : ∃ z, a0 * b1 = z := ⟨_, rfl⟩
  obtain ⟨p11, e11⟩ : ∃ z, a1 * b1 = z := ⟨_, rfl⟩
  rw [e00] at h1 
  rw [e00, e10] at h2
  rw [e00, e10, e01] at h3 h7
  rw [e11] at h4
  rw [e00, e10, e11] at h5
  rw [e00, e10, e11, e01] at h6
  have w00 : IntKind.u64.wrap ((a0 : Int) * (b0 : Int)) = (p00 : Int) := by rw [← Int.natCast_mul, e00, IntKind.wrap_u64]; omega
  have w10 : IntKind.u64.wrap ((a1 : Int) * (b0 : Int)) = (p10 : Int) := by rw [← Int.natCast_mul, e10, IntKind.wrap_u64]; omega
  have w01 : IntKind.u64.wrap ((a0 : Int) * (b1 : Int)) = (p01 : Int) := by rw [← Int.natCast_mul, e01, IntKind.wrap_u64]; omega
  have w11 : IntKind.u64.wrap ((a1 : Int) * (b1 : Int)) = (p11 : Int) := by rw [← Int.natCast_mul, e11, IntKind.wrap_u64]; omega
  obtain ⟨c, hc⟩ : ∃ z, p00 / 4294967296 = z := ⟨_, rfl⟩
  obtain ⟨d, hd⟩ : ∃ z, p00 % 4294967296 = z := ⟨_, rfl⟩
  have ic : (p00 : Int) / 4294967296 = (c : Int) := by omega
  have md := and_mask (p00 : Int) (by omega) (by omega)
  rw [show (p00 : Int) % 4294967296 = (d : Int) by omega] at md
  rw [hc] at h2 h3 h5 h6 h7
  rw [hd] at h7
  obtain ⟨x, hx⟩ : ∃ z, p10 + c = z := ⟨_, rfl⟩
  rw [hx] at h2 h3 h5 h6 h7
  have wx : IntKind.u64.wrap ((p10 : Int) + (c : Int)) = (x : Int) := by rw [IntKind.wrap_u64]; omega
  obtain ⟨x0, hx0⟩ : ∃ z, x % 4294967296 = z := ⟨_, rfl⟩
  obtain ⟨x1, hx1⟩ : ∃ z, x / 4294967296 = z := ⟨_, rfl⟩
  have mx := and_mask (x : Int) (by omega) (by omega)
  rw [show (x : Int) % 4294967296 = (x0 : Int) by omega] at mx
  have ix1 : (x : Int) / 4294967296 = (x1 : Int) := by omega
  rw [hx0] at h3 h6 h7
  rw [hx1] at h5 h6
  obtain ⟨y, hy⟩ : ∃ z, p01 + x0 = z := ⟨_, rfl⟩
  rw [hy] at h3 h6 h7
  have wy : IntKind.u64.wrap ((p01 : Int) + (x0 : Int)) = (y : Int) := by rw [IntKind.wrap_u64]; omega
  obtain ⟨y1, hy1⟩ : ∃ z, y / 4294967296 = z := ⟨_, rfl⟩
  have iy1 : (y : Int) / 4294967296 = (y1 : Int) := by omega
  rw [hy1] at h6
  obtain ⟨t, ht⟩ : ∃ z, p11 + x1 = z := ⟨_, rfl⟩
  rw [ht] at h5 h6
  have wt : IntKind.u64.wrap ((p11 : Int) + (x1 : Int)) = (t : Int) := by rw [IntKind.wrap_u64]; omega
  have wH : IntKind.u64.wrap ((t : Int) + (y1 : Int)) = (H : Int) := by rw [IntKind.wrap_u64]; omega
  obtain ⟨g, hg⟩ : ∃ z, y % 4294967296 * 4294967296 = z := ⟨_, rfl⟩
  have wg : IntKind.u64.wrap ((y : Int) * 4294967296) = (g : Int) := by rw [IntKind.wrap_u64]; omega
  have wo : Go.bits .or .u64 (g : Int) (d : Int) = (Lw : Int) := by
    rw [bits_or_u64_nat g d (by omega) (by omega)]
    have e : g ||| d = g + d := by
      have h := Nat.two_pow_add_eq_or_of_lt (i := 32) (b := d) (by omega) (y % 4294967296)
      rw [show 2 ^ 32 * (y % 4294967296) = g by rw [← hg, Nat.mul_comm]] at h
      exact h.symm
    rw [e]; omega
  have ba : (a : Int) ≤ 18446744073709551615 := by omega
  have bb : (b : Int) ≤ 18446744073709551615 := by omega
  have bp : (p00 : Int) ≤ 18446744073709551615 := by omega
  have bx : (x : Int) ≤ 18446744073709551615 := by omega
  have bt : (t : Int) ≤ 18446744073709551615 := by omega
  have by' : (y : Int) ≤ 18446744073709551615 := by omega
  clear h1 h2 h3 h4 h5 h6 h7 hH hHb hLw ha hb ea0 ea1 eb0 eb1 e00 e10 e01 e11 hc hd hx hx0 hx1 hy hy1 ht hg ia0 ib0
  go_enter Tryz.func18, Tryz.ntmps18
  go_wp2
  go_ret2
  exact ⟨rfl, rfl⟩
end W1
end Go.Proofs.YtcgpdijpppcbiaaGreatDoor
