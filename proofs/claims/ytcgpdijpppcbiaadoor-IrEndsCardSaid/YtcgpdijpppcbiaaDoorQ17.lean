/- Merged of Evs Evu Evv. Own work. -/
import Derived.Test.YtcgpdijpppcbiaaDoorQ16
import Derived.Laws.Rows
namespace Go.Proofs.YtcgpdijpppcbiaaDoor
open Go.RowKit
set_option linter.unusedVariables false
set_option linter.unusedSimpArgs false
namespace Ir
open Kc
abbrev zR : Array Value := #[.int .u64 0, .slice none 0 0, .int .i64 0]
theorem buildZR (w : World) : (Instr.build 36 #[]).run Tryd.prog w = .ok (.agg zR) w := by kernel_rfl
theorem infRes {a b c : Value} : (Tryd.prog.info? 36).map (·.size) = some (#[a, b, c] : Array Value).size := by kernel_rfl
theorem undRes : Tryd.prog.underlying 36 = some (.struct (Tryd.prog.fieldsOf 36)) := by kernel_rfl
theorem infU : ∃ i, Tryd.prog.info? 22 = some i ∧ i.zero = some (.int .u64 0) ∧ i.size = 1 ∧ i.bytes = 8 := ⟨(Tryd.prog.info? 22).get (by kernel_rfl), by kernel_rfl, by kernel_rfl, by kernel_rfl, by kernel_rfl⟩
theorem slR (q : Nat) (w : World) : (Instr.sliceAt 65 (.pointer (some ⟨q, 2, none⟩)) none none none).run Tryd.prog w = .ok (.slice (some ⟨q, 2, none⟩) 2048 2048) w := by
  simp [go_sem, Tryd.underlying65]
set_option maxRecDepth 100000 in
theorem runCells (pa : Option Addr) (pn pc sb fuel : Nat) : ((Tryd.zeroCells67.setIfInBounds 0 (.slice pa pn pc)).setIfInBounds 1 (.pointer (some ⟨sb, 0, none⟩))).setIfInBounds 2050 (.int .i64 fuel) = tab 2054 (rc (.slice pa pn pc) (.pointer (some ⟨sb, 0, none⟩)) ⟨fun _ => 0, fuel, 0, false, 0⟩) := by kernel_rfl
theorem call0 {pv sv : Value} {prog : List Fn} {D : Nat → Prop} (rec : Sem) (hL : LstC pv sv prog D rec.lst) (s : Rs) (v : Nat) (ok : Bool) (s' : Rs) (h : stepCall prog rec 0 0 (fun _ => 0) s = some (v, ok, s'))
    (w : World) (r : Nat) (hr : IsRun w r pv sv s) (hp : SlP w D pv prog) (hD : ∀ k, D k → k < w.heap.size ∧ k ≠ r) :
    Calls Tryd.prog 19 #[.pointer (some ⟨r, 0, none⟩), .int .u64 0, .slice none 0 0] w fun e w' => e = .returned (.tuple #[.int .u64 v, .bool ok]) ∧ v < 18446744073709551616 ∧ IsRun w' r pv sv s' ∧ Kept (fun k => k = r) w w' :=
  call_walk rec hL 0 0 (fun _ => 0) s v ok s' h w r (.slice none 0 0) hr hp ⟨none, 0, rfl, by decide, .inl rfl⟩ (fun _ => (by decide : (0 : Nat) < 18446744073709551616)) hD
/-- What Eval gives. -/
def EvR (w w' : World) (v : Nat) (ok : Bool) (s' : Rs) (e : Ending) : Prop :=
  if s'.dry = true then e = .returned (.tuple #[.agg zR, .iface 51 (.int .i64 30)]) ∧ Kept (fun _ => False) w w'
  else ∃ g c, e = .returned (.tuple #[.agg #[.int .u64 (if ok = true then v else s'.exit : Nat), .slice (some ⟨g, 0, none⟩) 2048 c, .int .i64 s'.used], .nilIface]) ∧ (∀ i, i < 2048 → w'.cell? ⟨g, i, none⟩ = some (.int .u64 (s'.mem i))) ∧ Kept (fun _ => False) w w'
set_option maxHeartbeats 8000000 in
set_option maxRecDepth 100000 in
theorem eval_run (ap : Nat → Nat → Nat → Nat → Nat) (hap : ∀ k a b c, 1 ≤ k → k ≤ 25 → a < 18446744073709551616 → b < 18446744073709551616 → c < 18446744073709551616 → W1.App k a b c (ap k a b c)) (g d : Nat)
    (prog : List Fn) (hright : right prog = true) (w : World) (D : Nat → Prop) (pv : Value) (sb : Nat) (hp : SlP w D pv prog) (hD : ∀ k, D k → k < w.heap.size) (fuel : Nat) (hfuel : fuel < 4611686018427387904) (v : Nat) (ok : Bool) (s' : Rs) (hsem : stepCall prog (sem prog ap g d) 0 0 (fun _ => 0) ⟨fun _ => 0, fuel, 0, false, 0⟩ = some (v, ok, s')) :
    Calls Tryd.prog 12 #[pv, .slice none 0 0, .pointer (some ⟨sb, 0, none⟩), .int .i64 fuel] w fun e w' => EvR w w' v ok s' e := by
  have tn : decide ((fuel : Int) < 0) = false := by simp
  have HSEM := Lib.hid (And.intro hsem hfuel)
  have HAP := Lib.hid hap
  clear hsem hfuel hap
  have hk0 := kept_alloc9 w (.cells zR 36)
  have HCK := Lib.hid (check_walk prog hright _ D _ (hp.kept hk0 fun _ _ => id))
  have HRZ := Lib.hid (heap_alloc_last w (.cells zR 36))
  have HK0 := Lib.hid hk0
  have HP := Lib.hid (And.intro hp (And.intro hD hright))
  obtain ⟨pa, pn, pc, hpv⟩ : ∃ a n c, pv = .slice a n c := by obtain ⟨a, c, e, _⟩ := hp; exact ⟨a, _, c, e⟩
  subst hpv
  clear hk0 hp hD hright
  go_enter Tryd.func12, Tryd.ntmps12
  go_upto_region 1 with (fail)
  generalize w.alloc (.cells zR 36) = y0 at *
  generalize hq8 : w.heap.size = q8 at HRZ
  have HQ8 := Lib.hid hq8
  clear hq8
  go_upto_region 11 with (first
    | (go_at_call 14; (with_reducible refine HCK.out.mono ?_); rintro e y1 ⟨he, hk1⟩; obtain rfl : e = _ := he; have HK1 := Lib.hid hk1; clear hk1 HCK))
  have hcr := runCells pa pn pc sb fuel
  generalize hck : ((Tryd.zeroCells67.setIfInBounds 0 (.slice pa pn pc)).setIfInBounds 1 (.pointer (some ⟨sb, 0, none⟩))).setIfInBounds 2050 (.int .i64 fuel) = ck at *
  clear hck
  have HCK2 := Lib.hid hcr.symm
  clear hcr
  have HR0 : Hid (IsRun (y1.alloc (.cells ck 67)) y1.heap.size (.slice pa pn pc) (.pointer (some ⟨sb, 0, none⟩)) ⟨fun _ => 0, fuel, 0, false, 0⟩) := Lib.hid ⟨by rw [← HCK2.out]; exact IsTab.new y1 _ 2054 _, fun _ => (by decide : (0 : Nat) < 18446744073709551616), (by decide : (0 : Nat) < 18446744073709551616), HSEM.out.2, Nat.zero_le _⟩
  have hka := kept_alloc9 y1 (.cells ck 67)
  have HK2 := Lib.hid ((HK0.out.trans HK1.out fun _ _ h => h.elim).trans hka fun _ _ h => h.elim)
  have HR2 : Hid ((y1.alloc (.cells ck 67)).heap[q8]? = some (.cells zR 36 (0, 0))) := Lib.hid ((hka.block q8 (Nat.lt_of_lt_of_le (Array.getElem?_eq_some_iff.1 HRZ.out).1 HK1.out.size) id).trans ((HK1.out.block q8 (Array.getElem?_eq_some_iff.1 HRZ.out).1 id).trans HRZ.out))
  have HQQ0 : Hid (y1.heap.size ≠ q8 ∧ w.heap.size ≤ y1.heap.size) := Lib.hid ⟨by have := (Array.getElem?_eq_some_iff.1 HRZ.out).1; have := HK1.out.size; omega, by have := HK0.out.size; have := HK1.out.size; omega⟩
  have HC := Lib.hid (call0 (sem prog ap g d) (sem_good ap HAP.out g d).2 _ v ok s' HSEM.out.1 _ y1.heap.size HR0.out (HP.out.1.kept HK2.out fun _ _ => id) fun k hk => ⟨Nat.lt_of_lt_of_le (HP.out.2.1 k hk) HK2.out.size, by have := HP.out.2.1 k hk; have := HQQ0.out.2; omega⟩)
  clear hka HK0 HK1 HRZ
  generalize y1.alloc (.cells ck 67) = y4 at *
  generalize y1.heap.size = q at *
  have s4 := slR q
  go_upto_region 12 with (refine wpList_copy_nothing rfl (.tmp 41) (.tmp 42) 34 34 rfl 22 und64 size64 (some ⟨q, 2, none⟩) none 2048 2048 0 0 rfl rfl rfl ?_)
  clear s4
  cases hdry : s'.dry with
  | true =>
    go_upto_region 14 with (go_at_call 19; (with_reducible refine HC.out.mono ?_); rintro e y5 ⟨he, hx5, hr5, hk5⟩; obtain rfl : e = _ := he; have H5 := Lib.hid (And.intro hx5 (And.intro hr5 (And.intro ((hk5.block q8 (Array.getElem?_eq_some_iff.1 HR2.out).1 (fun e => HQQ0.out.1 e.symm)).trans HR2.out) (HK2.out.trans hk5 fun k hk e => by have := HQQ0.out.2; omega)))); have kd := hr5.dr; rw [hdry] at kd; clear hx5 hr5 hk5 HC)
    go_wp2_with (first
      | ((with_reducible refine wpList_buildN (P := Tryd.prog) (w := y5) ?_ 36 ?_ (.agg zR) (buildZR y5) ?_); (· exact rfl); (· exact rfl))
      | ((with_reducible refine wpList_store_row (P := Tryd.prog) (w := y5) ?_ 36 (.tmp 8) (.tmp 53) ?_ q8 zR ?_ ?_ 36 zR H5.out.2.2.1 infRes rfl (by simp [Value.oneCell']) ?_); (· exact rfl); (· exact rfl); (· exact rfl); (· exact rfl)))
    have hrow := setRow_heap y5 q8 zR zR 36 (0, 0) H5.out.2.2.1
    have hkr : Kept (fun k => k = q8) y5 (y5.setRow q8 zR) := ⟨by simp, by simp, by simp, by simp, fun k hk hn => setRow_other y5 q8 k _ hn⟩
    refine bodyPost_ret (Kc.results_cell_tmp rfl _ _ q8 36 _ (0, 0) _ rfl hrow undRes rfl infRes (.iface 51 (.int .i64 30)) rfl) rfl ?_
    unfold EvR
    rw [if_pos hdry]
    exact ⟨rfl, H5.out.2.2.2.trans hkr fun k hk e => by have := HQ8.out; omega⟩
  | false =>
    cases ok with
    | true =>
      go_upto_region 16 with (go_at_call 19; (with_reducible refine HC.out.mono ?_); rintro e y5 ⟨he, hx5, hr5, hk5⟩; obtain rfl : e = _ := he; have H5 := Lib.hid (And.intro hx5 (And.intro hr5 (And.intro ((hk5.block q8 (Array.getElem?_eq_some_iff.1 HR2.out).1 (fun e => HQQ0.out.1 e.symm)).trans HR2.out) (HK2.out.trans hk5 fun k hk e => by have := HQQ0.out.2; omega)))); have kd := hr5.dr; rw [hdry] at kd; clear hx5 hr5 hk5 HC)
      have ke := H5.out.2.1.ex
      have fe := H5.out.2.1.fz 2053
      have HE6 := Lib.hid (H5.out.2.1.setExit H5.out.1)
      have hks : Kept (fun k => k = q) y5 (y5.setCell ⟨q, 2053, none⟩ (.int .u64 v)) := (Kept.refl (fun k => k = q) y5).setCell (.inl rfl) _
      have H6 := Lib.hid (And.intro HE6.out (And.intro ((hks.block q8 (Array.getElem?_eq_some_iff.1 H5.out.2.2.1).1 (fun e => HQQ0.out.1 e.symm)).trans H5.out.2.2.1) (H5.out.2.2.2.trans hks fun k hk e => by have := HQQ0.out.2; omega)))
      clear hks
      go_upto_region 17 with (fail)
      clear ke fe HE6 H5
      generalize y5.setCell ⟨q, 2053, none⟩ (.int .u64 v) = y6 at *
      have HQQ : Hid (q ≠ q8 ∧ ∀ g, g ≠ q8 → g ≠ q8) := Lib.hid ⟨HQQ0.out.1, fun _ h => h⟩
      have HI2 := Lib.hid infU
      refine wp_region_og (fun z : World => IsRun z q (.slice pa pn pc) (.pointer (some ⟨sb, 0, none⟩)) (s'.ends v)) (.take 0 (.take 1 (.take 2 (.take 3 (.take 4 (.take 5 (.take 6 (.take 7 (.take 9 (.take 10 (.take 11 (.take 12 (.one 8 (.take 13 (.one 14 (.take 15 .done)))))))))))))))) (by kernel_rfl) (by kernel_rfl) (H6.out.1.kept (kept_drew9 y6) id) ?_
      have H7 := Lib.hid (And.intro (H6.out.1.kept (kept_drew9 y6) id) (And.intro (show y6.drew.heap[q8]? = some (.cells zR 36 (0, 0)) from H6.out.2.1) (H6.out.2.2.trans (kept_drew9 y6) fun _ _ h => h.elim)))
      have s7 := slR q
      clear H6
      generalize y6.drew = y7 at *
      refine og_tk (some 60) (.pointer (some ⟨q, 0, none⟩)) rfl rfl (by go_simp) (fun _ _ => by simp [execOp, go_sem]) ?_
      simp only [Act.put, pS]
      refine og_tk (some 61) (.pointer (some ⟨q, 0, none⟩)) rfl rfl (by go_simp) (fun _ _ => by simp [execOp, go_sem]) ?_
      simp only [Act.put, pS]
      refine og_tk (some 62) (.pointer (some ⟨q, 2053, none⟩)) rfl rfl (by go_simp) (fun _ _ => by simp [execOp, go_sem]) ?_
      simp only [Act.put, pS]
      refine og_ld (some 63) 22 (.tmp 62) (.pointer (some ⟨q, 2053, none⟩)) (.int .u64 v) rfl rfl (by go_simp) rfl rfl (fun y hy => by have h := hy.ex; (try simp only [Rs.ends] at h); simp [Instr.loadAt, go_sem, h, Tryd.underlying22]) ?_
      simp only [Act.put, pS]
      refine og_tk (some 64) (.pointer (some ⟨q, 0, none⟩)) rfl rfl (by go_simp) (fun _ _ => by simp [execOp, go_sem]) ?_
      simp only [Act.put, pS]
      refine og_tk (some 65) (.pointer (some ⟨q, 0, none⟩)) rfl rfl (by go_simp) (fun _ _ => by simp [execOp, go_sem]) ?_
      simp only [Act.put, pS]
      refine og_tk (some 66) (.pointer (some ⟨q, 2, none⟩)) rfl rfl (by go_simp) (fun _ _ => by simp [execOp, go_sem]) ?_
      simp only [Act.put, pS]
      refine og_tk (some 67) (.slice (some ⟨q, 2, none⟩) 2048 2048) rfl rfl (by go_simp) (fun y hy => by have h := s7 y; simp [execOp, go_sem, h, Result.andThen]) ?_
      simp only [Act.put, pS]
      refine og_tk (some 69) (.pointer (some ⟨q, 0, none⟩)) rfl rfl (by go_simp) (fun _ _ => by simp [execOp, go_sem]) ?_
      simp only [Act.put, pS]
      refine og_tk (some 70) (.pointer (some ⟨q, 0, none⟩)) rfl rfl (by go_simp) (fun _ _ => by simp [execOp, go_sem]) ?_
      simp only [Act.put, pS]
      refine og_tk (some 71) (.pointer (some ⟨q, 2051, none⟩)) rfl rfl (by go_simp) (fun _ _ => by simp [execOp, go_sem]) ?_
      simp only [Act.put, pS]
      refine og_ld (some 72) 3 (.tmp 71) (.pointer (some ⟨q, 2051, none⟩)) (.int .i64 s'.used) rfl rfl (by go_simp) rfl rfl (fun y hy => by have h := hy.us; (try simp only [Rs.ends] at h); simp [Instr.loadAt, go_sem, h, Tryd.underlying3]) ?_
      simp only [Act.put, pS]
      refine og_f rfl (by go_simp) fun K hK => ?_
      obtain ⟨i0, hi1, hi2, hi3, hi4⟩ := HI2.out
      refine wp_append_own (w := y7) (.const (.slice none 0 0)) (.tmp 67) 34 rfl y7.heap.size 22 i0 (.int .u64 0) 1 8 und64 hi1 hi2 hi3 hi4 rfl (by decide) (.slice none 0 0) 0 [] rfl (World.ownsRow_nil _ _ _ _) ⟨q, 2, none⟩ 2048 2048 ((List.range 2048).map fun i => .int .u64 (s'.mem i)) rfl (by rw [List.length_map, List.length_range]) (fun j u hu => by obtain ⟨hj, rfl⟩ := List.getElem?_eq_some_iff.1 hu; simp only [List.length_map, List.length_range] at hj; rw [add_at]; simpa [Rs.ends] using H7.out.1.m hj) (fun u hu => by obtain ⟨j, _, rfl⟩ := List.mem_map.1 hu; rfl) (by decide) (by decide) (Nat.le_refl _) fun v' y8 hown hgr _ => ?_
      have hk8 : Kept (fun _ => False) y7 y8 := Kept.grown (Kept.refl _ _) hgr (fun k h => by cases h)
      have hq8 : q8 < y7.heap.size := (Array.getElem?_eq_some_iff.1 H7.out.2.1).1
      have H8 := Lib.hid (And.intro (H7.out.1.kept hk8 id) (And.intro ((hk8.block q8 hq8 id).trans H7.out.2.1) (And.intro (H7.out.2.2.trans hk8 fun _ _ h => h.elim) hown)))
      refine hK _ _ H8.out.1 ?_
      obtain ⟨g8, c8, rfl, hg8⟩ : ∃ g c, v' = .slice (some ⟨g, 0, none⟩) 2048 c ∧ ∀ i, i < 2048 → y8.cell? ⟨g, i, none⟩ = some (.int .u64 (s'.mem i)) := by
        rcases ownsRow_forms hown with ⟨_, h0⟩ | ⟨g, c, rfl, _⟩
        · simp at h0
        · refine ⟨g, c, rfl, fun i hi => ?_⟩
          have := hown.cells (g := g) rfl i (.int .u64 (s'.mem i)) (by simp [hi])
          rwa [add_at, Nat.zero_add] at this
      have HG8 := Lib.hid (And.intro hg8 (show ¬ g8 = q8 from fun e => by have h1 := owns_base hown (k := g8) rfl; omega))
      clear hK K hown hgr hk8 hg8 H7 HI2 hi1 hi2 hi3 hi4
      simp only [Act.put, pS]
      refine og_tk (some 73) (.agg #[.int .u64 v, .slice (some ⟨g8, 0, none⟩) 2048 c8, .int .i64 s'.used]) rfl rfl (by go_simp) (fun _ _ => by simp [execOp, go_sem]) ?_
      simp only [Act.put, pS]
      refine og_f rfl (by go_simp) fun K hK => ?_
      refine wp_store_row 36 (.tmp 8) (.tmp 73) rfl q8 #[.int .u64 v, .slice (some ⟨g8, 0, none⟩) 2048 c8, .int .i64 s'.used] rfl rfl 36 zR H8.out.2.1 infRes rfl (by simp [Value.oneCell']) ?_
      have hrow := setRow_heap y8 q8 zR #[.int .u64 v, .slice (some ⟨g8, 0, none⟩) 2048 c8, .int .i64 s'.used] 36 (0, 0) H8.out.2.1
      have hkr : Kept (fun k => k = q8) y8 (y8.setRow q8 #[.int .u64 v, .slice (some ⟨g8, 0, none⟩) 2048 c8, .int .i64 s'.used]) := ⟨by simp, by simp, by simp, by simp, fun k hk hn => setRow_other y8 q8 k _ hn⟩
      have H9 := Lib.hid (And.intro hrow (And.intro (H8.out.1.kept hkr HQQ.out.1) (And.intro (H8.out.2.2.1.trans hkr fun k hk h => by have := HQ8.out; omega) (fun i hi => hkr.cell (fun e => HG8.out.2 e) (HG8.out.1 i hi)))))
      refine hK _ _ H9.out.2.1 ?_
      clear hK K hrow hkr
      simp only [Act.put, pS]
      refine og_tk (some 9) (.nilIface) rfl rfl (by go_simp) (fun _ _ => by simp [execOp, go_sem]) ?_
      simp only [Act.put, pS]
      refine og_done (NoPanic.normal ?_)
      go_wp2_with (fail)
      refine bodyPost_ret (Kc.results_cell_tmp rfl _ _ q8 36 _ (0, 0) _ rfl H9.out.1 undRes rfl infRes .nilIface rfl) rfl ?_
      unfold EvR
      rw [if_neg (by rw [hdry]; decide)]
      exact ⟨g8, c8, rfl, H9.out.2.2.2, H9.out.2.2.1⟩
    | false =>
      go_upto_region 17 with (go_at_call 19; (with_reducible refine HC.out.mono ?_); rintro e y5 ⟨he, hx5, hr5, hk5⟩; obtain rfl : e = _ := he; have H5 := Lib.hid (And.intro hx5 (And.intro hr5 (And.intro ((hk5.block q8 (Array.getElem?_eq_some_iff.1 HR2.out).1 (fun e => HQQ0.out.1 e.symm)).trans HR2.out) (HK2.out.trans hk5 fun k hk e => by have := HQQ0.out.2; omega)))); have kd := hr5.dr; rw [hdry] at kd; clear hx5 hr5 hk5 HC)
      have H6 := Lib.hid (And.intro H5.out.2.1 (And.intro H5.out.2.2.1 H5.out.2.2.2))
      clear H5
      generalize y5 = y6 at *
      have HQQ : Hid (q ≠ q8 ∧ ∀ g, g ≠ q8 → g ≠ q8) := Lib.hid ⟨HQQ0.out.1, fun _ h => h⟩
      have HI2 := Lib.hid infU
      refine wp_region_og (fun z : World => IsRun z q (.slice pa pn pc) (.pointer (some ⟨sb, 0, none⟩)) s') (.take 0 (.take 1 (.take 2 (.take 3 (.take 4 (.take 5 (.take 6 (.take 7 (.take 9 (.take 10 (.take 11 (.take 12 (.one 8 (.take 13 (.one 14 (.take 15 .done)))))))))))))))) (by kernel_rfl) (by kernel_rfl) (H6.out.1.kept (kept_drew9 y6) id) ?_
      have H7 := Lib.hid (And.intro (H6.out.1.kept (kept_drew9 y6) id) (And.intro (show y6.drew.heap[q8]? = some (.cells zR 36 (0, 0)) from H6.out.2.1) (H6.out.2.2.trans (kept_drew9 y6) fun _ _ h => h.elim)))
      have s7 := slR q
      clear H6
      generalize y6.drew = y7 at *
      refine og_tk (some 60) (.pointer (some ⟨q, 0, none⟩)) rfl rfl (by go_simp) (fun _ _ => by simp [execOp, go_sem]) ?_
      simp only [Act.put, pS]
      refine og_tk (some 61) (.pointer (some ⟨q, 0, none⟩)) rfl rfl (by go_simp) (fun _ _ => by simp [execOp, go_sem]) ?_
      simp only [Act.put, pS]
      refine og_tk (some 62) (.pointer (some ⟨q, 2053, none⟩)) rfl rfl (by go_simp) (fun _ _ => by simp [execOp, go_sem]) ?_
      simp only [Act.put, pS]
      refine og_ld (some 63) 22 (.tmp 62) (.pointer (some ⟨q, 2053, none⟩)) (.int .u64 s'.exit) rfl rfl (by go_simp) rfl rfl (fun y hy => by have h := hy.ex; (try simp only [Rs.ends] at h); simp [Instr.loadAt, go_sem, h, Tryd.underlying22]) ?_
      simp only [Act.put, pS]
      refine og_tk (some 64) (.pointer (some ⟨q, 0, none⟩)) rfl rfl (by go_simp) (fun _ _ => by simp [execOp, go_sem]) ?_
      simp only [Act.put, pS]
      refine og_tk (some 65) (.pointer (some ⟨q, 0, none⟩)) rfl rfl (by go_simp) (fun _ _ => by simp [execOp, go_sem]) ?_
      simp only [Act.put, pS]
      refine og_tk (some 66) (.pointer (some ⟨q, 2, none⟩)) rfl rfl (by go_simp) (fun _ _ => by simp [execOp, go_sem]) ?_
      simp only [Act.put, pS]
      refine og_tk (some 67) (.slice (some ⟨q, 2, none⟩) 2048 2048) rfl rfl (by go_simp) (fun y hy => by have h := s7 y; simp [execOp, go_sem, h, Result.andThen]) ?_
      simp only [Act.put, pS]
      refine og_tk (some 69) (.pointer (some ⟨q, 0, none⟩)) rfl rfl (by go_simp) (fun _ _ => by simp [execOp, go_sem]) ?_
      simp only [Act.put, pS]
      refine og_tk (some 70) (.pointer (some ⟨q, 0, none⟩)) rfl rfl (by go_simp) (fun _ _ => by simp [execOp, go_sem]) ?_
      simp only [Act.put, pS]
      refine og_tk (some 71) (.pointer (some ⟨q, 2051, none⟩)) rfl rfl (by go_simp) (fun _ _ => by simp [execOp, go_sem]) ?_
      simp only [Act.put, pS]
      refine og_ld (some 72) 3 (.tmp 71) (.pointer (some ⟨q, 2051, none⟩)) (.int .i64 s'.used) rfl rfl (by go_simp) rfl rfl (fun y hy => by have h := hy.us; (try simp only [Rs.ends] at h); simp [Instr.loadAt, go_sem, h, Tryd.underlying3]) ?_
      simp only [Act.put, pS]
      refine og_f rfl (by go_simp) fun K hK => ?_
      obtain ⟨i0, hi1, hi2, hi3, hi4⟩ := HI2.out
      refine wp_append_own (w := y7) (.const (.slice none 0 0)) (.tmp 67) 34 rfl y7.heap.size 22 i0 (.int .u64 0) 1 8 und64 hi1 hi2 hi3 hi4 rfl (by decide) (.slice none 0 0) 0 [] rfl (World.ownsRow_nil _ _ _ _) ⟨q, 2, none⟩ 2048 2048 ((List.range 2048).map fun i => .int .u64 (s'.mem i)) rfl (by rw [List.length_map, List.length_range]) (fun j u hu => by obtain ⟨hj, rfl⟩ := List.getElem?_eq_some_iff.1 hu; simp only [List.length_map, List.length_range] at hj; rw [add_at]; simpa [Rs.ends] using H7.out.1.m hj) (fun u hu => by obtain ⟨j, _, rfl⟩ := List.mem_map.1 hu; rfl) (by decide) (by decide) (Nat.le_refl _) fun v' y8 hown hgr _ => ?_
      have hk8 : Kept (fun _ => False) y7 y8 := Kept.grown (Kept.refl _ _) hgr (fun k h => by cases h)
      have hq8 : q8 < y7.heap.size := (Array.getElem?_eq_some_iff.1 H7.out.2.1).1
      have H8 := Lib.hid (And.intro (H7.out.1.kept hk8 id) (And.intro ((hk8.block q8 hq8 id).trans H7.out.2.1) (And.intro (H7.out.2.2.trans hk8 fun _ _ h => h.elim) hown)))
      refine hK _ _ H8.out.1 ?_
      obtain ⟨g8, c8, rfl, hg8⟩ : ∃ g c, v' = .slice (some ⟨g, 0, none⟩) 2048 c ∧ ∀ i, i < 2048 → y8.cell? ⟨g, i, none⟩ = some (.int .u64 (s'.mem i)) := by
        rcases ownsRow_forms hown with ⟨_, h0⟩ | ⟨g, c, rfl, _⟩
        · simp at h0
        · refine ⟨g, c, rfl, fun i hi => ?_⟩
          have := hown.cells (g := g) rfl i (.int .u64 (s'.mem i)) (by simp [hi])
          rwa [add_at, Nat.zero_add] at this
      have HG8 := Lib.hid (And.intro hg8 (show ¬ g8 = q8 from fun e => by have h1 := owns_base hown (k := g8) rfl; omega))
      clear hK K hown hgr hk8 hg8 H7 HI2 hi1 hi2 hi3 hi4
      simp only [Act.put, pS]
      refine og_tk (some 73) (.agg #[.int .u64 s'.exit, .slice (some ⟨g8, 0, none⟩) 2048 c8, .int .i64 s'.used]) rfl rfl (by go_simp) (fun _ _ => by simp [execOp, go_sem]) ?_
      simp only [Act.put, pS]
      refine og_f rfl (by go_simp) fun K hK => ?_
      refine wp_store_row 36 (.tmp 8) (.tmp 73) rfl q8 #[.int .u64 s'.exit, .slice (some ⟨g8, 0, none⟩) 2048 c8, .int .i64 s'.used] rfl rfl 36 zR H8.out.2.1 infRes rfl (by simp [Value.oneCell']) ?_
      have hrow := setRow_heap y8 q8 zR #[.int .u64 s'.exit, .slice (some ⟨g8, 0, none⟩) 2048 c8, .int .i64 s'.used] 36 (0, 0) H8.out.2.1
      have hkr : Kept (fun k => k = q8) y8 (y8.setRow q8 #[.int .u64 s'.exit, .slice (some ⟨g8, 0, none⟩) 2048 c8, .int .i64 s'.used]) := ⟨by simp, by simp, by simp, by simp, fun k hk hn => setRow_other y8 q8 k _ hn⟩
      have H9 := Lib.hid (And.intro hrow (And.intro (H8.out.1.kept hkr HQQ.out.1) (And.intro (H8.out.2.2.1.trans hkr fun k hk h => by have := HQ8.out; omega) (fun i hi => hkr.cell (fun e => HG8.out.2 e) (HG8.out.1 i hi)))))
      refine hK _ _ H9.out.2.1 ?_
      clear hK K hrow hkr
      simp only [Act.put, pS]
      refine og_tk (some 9) (.nilIface) rfl rfl (by go_simp) (fun _ _ => by simp [execOp, go_sem]) ?_
      simp only [Act.put, pS]
      refine og_done (NoPanic.normal ?_)
      go_wp2_with (fail)
      refine bodyPost_ret (Kc.results_cell_tmp rfl _ _ q8 36 _ (0, 0) _ rfl H9.out.1 undRes rfl infRes .nilIface rfl) rfl ?_
      unfold EvR
      rw [if_neg (by rw [hdry]; decide)]
      exact ⟨g8, c8, rfl, H9.out.2.2.2, H9.out.2.2.1⟩
end Ir
end Go.Proofs.YtcgpdijpppcbiaaDoor
namespace Go.Proofs.YtcgpdijpppcbiaaDoor
open Go.RowKit
set_option linter.unusedVariables false
set_option linter.unusedSimpArgs false
namespace Ir
open Kc
theorem infX3 {a b c : Value} : (Tryd.prog.info? 25).map (·.size) = some (#[a, b, c] : Array Value).size := by kernel_rfl
theorem constant_walk (n : Nat) (w : World) : Calls Tryd.prog 6 #[.int .u64 n] w fun e w' => e = .returned (.agg #[.int .i64 26, .int .u64 n, .slice none 0 0]) ∧ Kept (fun _ => False) w w' := by
  have hra := heap_alloc_last w (.cells zX 25)
  have hk := kept_alloc9 w (.cells zX 25)
  have HZ := Lib.hid hra
  have HK := Lib.hid hk
  have hlt : w.heap.size < (w.alloc (.cells zX 25)).heap.size := by simp
  clear hra hk
  go_enter Tryd.func6, Tryd.ntmps6
  go_upto_region 1 with (fail)
  generalize w.alloc (.cells zX 25) = y0 at *
  generalize hq : w.heap.size = q at HZ hlt
  go_wp2_with (((with_reducible refine wpList_store_row (P := Tryd.prog) (w := y0) ?_ 25 (.tmp 2) (.tmp 4) ?_ q #[.int .i64 26, .int .u64 n, .slice none 0 0] ?_ ?_ 25 zX HZ.out infX3 rfl (by simp [Value.oneCell']) ?_); (· exact rfl); (· exact rfl); (· exact rfl); (· exact rfl)))
  have hrow := setRow_heap y0 q zX #[.int .i64 26, .int .u64 n, .slice none 0 0] 25 (0, 0) HZ.out
  have hkr : Kept (fun k => k = q) y0 (y0.setRow q #[.int .i64 26, .int .u64 n, .slice none 0 0]) := ⟨by simp, by simp, by simp, by simp, fun k hk hn => setRow_other y0 q k _ hn⟩
  exact bodyPost_ret (results_cell_row rfl _ _ q 25 _ (0, 0) _ rfl hrow undX rfl infX) rfl ⟨rfl, HK.out.trans hkr fun k hk e => by omega⟩
theorem local9_walk (n : Nat) (w : World) : Calls Tryd.prog 7 #[.int .u64 n] w fun e w' => e = .returned (.agg #[.int .i64 27, .int .u64 n, .slice none 0 0]) ∧ Kept (fun _ => False) w w' := by
  have hra := heap_alloc_last w (.cells zX 25)
  have hk := kept_alloc9 w (.cells zX 25)
  have HZ := Lib.hid hra
  have HK := Lib.hid hk
  have hlt : w.heap.size < (w.alloc (.cells zX 25)).heap.size := by simp
  clear hra hk
  go_enter Tryd.func7, Tryd.ntmps7
  go_upto_region 1 with (fail)
  generalize w.alloc (.cells zX 25) = y0 at *
  generalize hq : w.heap.size = q at HZ hlt
  go_wp2_with (((with_reducible refine wpList_store_row (P := Tryd.prog) (w := y0) ?_ 25 (.tmp 2) (.tmp 4) ?_ q #[.int .i64 27, .int .u64 n, .slice none 0 0] ?_ ?_ 25 zX HZ.out infX3 rfl (by simp [Value.oneCell']) ?_); (· exact rfl); (· exact rfl); (· exact rfl); (· exact rfl)))
  have hrow := setRow_heap y0 q zX #[.int .i64 27, .int .u64 n, .slice none 0 0] 25 (0, 0) HZ.out
  have hkr : Kept (fun k => k = q) y0 (y0.setRow q #[.int .i64 27, .int .u64 n, .slice none 0 0]) := ⟨by simp, by simp, by simp, by simp, fun k hk hn => setRow_other y0 q k _ hn⟩
  exact bodyPost_ret (results_cell_row rfl _ _ q 25 _ (0, 0) _ rfl hrow undX rfl infX) rfl ⟨rfl, HK.out.trans hkr fun k hk e => by omega⟩
theorem op9_walk (k : Int) (a : Option Addr) (n c : Nat) (w : World) : Calls Tryd.prog 8 #[.int .i64 k, .slice a n c] w fun e w' => e = .returned (.agg #[.int .i64 k, .int .u64 0, .slice a n c]) ∧ Kept (fun _ => False) w w' := by
  have hra := heap_alloc_last w (.cells zX 25)
  have hk := kept_alloc9 w (.cells zX 25)
  have HZ := Lib.hid hra
  have HK := Lib.hid hk
  have hlt : w.heap.size < (w.alloc (.cells zX 25)).heap.size := by simp
  clear hra hk
  go_enter Tryd.func8, Tryd.ntmps8
  go_upto_region 1 with (fail)
  generalize w.alloc (.cells zX 25) = y0 at *
  generalize hq : w.heap.size = q at HZ hlt
  go_wp2_with (((with_reducible refine wpList_store_row (P := Tryd.prog) (w := y0) ?_ 25 (.tmp 4) (.tmp 7) ?_ q #[.int .i64 k, .int .u64 0, .slice a n c] ?_ ?_ 25 zX HZ.out infX3 rfl (by simp [Value.oneCell']) ?_); (· exact rfl); (· exact rfl); (· exact rfl); (· exact rfl)))
  have hrow := setRow_heap y0 q zX #[.int .i64 k, .int .u64 0, .slice a n c] 25 (0, 0) HZ.out
  have hkr : Kept (fun k => k = q) y0 (y0.setRow q #[.int .i64 k, .int .u64 0, .slice a n c]) := ⟨by simp, by simp, by simp, by simp, fun k hk hn => setRow_other y0 q k _ hn⟩
  exact bodyPost_ret (results_cell_row rfl _ _ q 25 _ (0, 0) _ rfl hrow undX rfl infX) rfl ⟨rfl, HK.out.trans hkr fun k hk e => by omega⟩
theorem slSn {w : World} {D : Nat → Prop} {a : Option Addr} {n c b o : Nat} {x : Sf} (h : SlS w D (.slice a n c) x) (hc : w.cell? ⟨b, o, none⟩ = some (.slice a n c)) : ∃ a c, w.cell? ⟨b, o, none⟩ = some (.slice a x.len c) ∧ x.len < 1099511627776 ∧ (x = .nil ∨ ∃ b' o', a = some ⟨b', o', none⟩ ∧ SfAt w D x b' o') := by
  obtain ⟨a', c', e, hl, h⟩ := h
  injection e with e1 e2 e3
  subst e1; subst e2; subst e3
  exact ⟨_, _, hc, hl, h⟩
theorem slEn {w : World} {D : Nat → Prop} : SlE w D (.slice none 0 0) .nil := ⟨none, 0, rfl, by decide, .inl rfl⟩
theorem slS0 {w : World} {D : Nat → Prop} : SlS w D (.slice none 0 0) .nil := ⟨none, 0, rfl, by decide, .inl rfl⟩
theorem sx1 {y : World} {D : Nat → Prop} {kind0 n0 ao0 bo0 : Int} {an0 bn0 nA0 cA0 nB0 cB0 nC0 cC0 nD0 cD0 : Nat} {aA0 aB0 aC0 aD0 : Option Addr} {ak0 bk0 : Ef} {body0 els0 : Sf} (hd : D y.heap.size) (hA0 : SlE y D (.slice aA0 nA0 cA0) ak0) (hB0 : SlE y D (.slice aB0 nB0 cB0) bk0) (hC0 : SlS y D (.slice aC0 nC0 cC0) body0) (hD0 : SlS y D (.slice aD0 nD0 cD0) els0) (han0 : an0 < 18446744073709551616) (hbn0 : bn0 < 18446744073709551616) :
    SlS (y.alloc (.cells #[.int .i64 kind0, .int .i64 n0, .int .i64 ao0, .int .u64 an0, .slice aA0 nA0 cA0, .int .i64 bo0, .int .u64 bn0, .slice aB0 nB0 cB0, .slice aC0 nC0 cC0, .slice aD0 nD0 cD0] 29)) D (.slice (some ⟨y.heap.size, 0, none⟩) 1 1) (.cons kind0 n0 ao0 an0 ak0 bo0 bn0 bk0 body0 els0 .nil) := by
  have hk := kept_alloc9 y (.cells #[.int .i64 kind0, .int .i64 n0, .int .i64 ao0, .int .u64 an0, .slice aA0 nA0 cA0, .int .i64 bo0, .int .u64 bn0, .slice aB0 nB0 cB0, .slice aC0 nC0 cC0, .slice aD0 nD0 cD0] 29)
  exact ⟨_, 1, rfl, by simp [Sf.len], .inr ⟨y.heap.size, 0, rfl, ⟨hd, han0, hbn0, xc 0 _ rfl, xc 1 _ rfl, xc 2 _ rfl, xc 3 _ rfl, ⟨_, xc 4 _ rfl, hA0.kept hk fun _ _ => id⟩, xc 5 _ rfl, xc 6 _ rfl, ⟨_, xc 7 _ rfl, hB0.kept hk fun _ _ => id⟩, slSn (hC0.kept hk fun _ _ => id) (xc 8 _ rfl), slSn (hD0.kept hk fun _ _ => id) (xc 9 _ rfl), trivial⟩⟩⟩
theorem buildS1 (l0_0 l0_1 l0_2 l0_3 l0_4 l0_5 l0_6 l0_7 l0_8 l0_9 : Value) (w : World) : (Instr.buildSlice 27 1 #[(0, .agg #[l0_0, l0_1, l0_2, l0_3, l0_4, l0_5, l0_6, l0_7, l0_8, l0_9])]).run Tryd.prog w = .ok (.slice (some ⟨w.heap.size, 0, none⟩) 1 1) (w.alloc (.cells #[l0_0, l0_1, l0_2, l0_3, l0_4, l0_5, l0_6, l0_7, l0_8, l0_9] 29)) := by kernel_rfl
theorem sx2 {y : World} {D : Nat → Prop} {kind0 n0 ao0 bo0 : Int} {an0 bn0 nA0 cA0 nB0 cB0 nC0 cC0 nD0 cD0 : Nat} {aA0 aB0 aC0 aD0 : Option Addr} {ak0 bk0 : Ef} {body0 els0 : Sf} {kind1 n1 ao1 bo1 : Int} {an1 bn1 nA1 cA1 nB1 cB1 nC1 cC1 nD1 cD1 : Nat} {aA1 aB1 aC1 aD1 : Option Addr} {ak1 bk1 : Ef} {body1 els1 : Sf} (hd : D y.heap.size) (hA0 : SlE y D (.slice aA0 nA0 cA0) ak0) (hB0 : SlE y D (.slice aB0 nB0 cB0) bk0) (hC0 : SlS y D (.slice aC0 nC0 cC0) body0) (hD0 : SlS y D (.slice aD0 nD0 cD0) els0) (han0 : an0 < 18446744073709551616) (hbn0 : bn0 < 18446744073709551616) (hA1 : SlE y D (.slice aA1 nA1 cA1) ak1) (hB1 : SlE y D (.slice aB1 nB1 cB1) bk1) (hC1 : SlS y D (.slice aC1 nC1 cC1) body1) (hD1 : SlS y D (.slice aD1 nD1 cD1) els1) (han1 : an1 < 18446744073709551616) (hbn1 : bn1 < 18446744073709551616) :
    SlS (y.alloc (.cells #[.int .i64 kind0, .int .i64 n0, .int .i64 ao0, .int .u64 an0, .slice aA0 nA0 cA0, .int .i64 bo0, .int .u64 bn0, .slice aB0 nB0 cB0, .slice aC0 nC0 cC0, .slice aD0 nD0 cD0, .int .i64 kind1, .int .i64 n1, .int .i64 ao1, .int .u64 an1, .slice aA1 nA1 cA1, .int .i64 bo1, .int .u64 bn1, .slice aB1 nB1 cB1, .slice aC1 nC1 cC1, .slice aD1 nD1 cD1] 29)) D (.slice (some ⟨y.heap.size, 0, none⟩) 2 2) (.cons kind0 n0 ao0 an0 ak0 bo0 bn0 bk0 body0 els0 (.cons kind1 n1 ao1 an1 ak1 bo1 bn1 bk1 body1 els1 .nil)) := by
  have hk := kept_alloc9 y (.cells #[.int .i64 kind0, .int .i64 n0, .int .i64 ao0, .int .u64 an0, .slice aA0 nA0 cA0, .int .i64 bo0, .int .u64 bn0, .slice aB0 nB0 cB0, .slice aC0 nC0 cC0, .slice aD0 nD0 cD0, .int .i64 kind1, .int .i64 n1, .int .i64 ao1, .int .u64 an1, .slice aA1 nA1 cA1, .int .i64 bo1, .int .u64 bn1, .slice aB1 nB1 cB1, .slice aC1 nC1 cC1, .slice aD1 nD1 cD1] 29)
  exact ⟨_, 2, rfl, by simp [Sf.len], .inr ⟨y.heap.size, 0, rfl, ⟨hd, han0, hbn0, xc 0 _ rfl, xc 1 _ rfl, xc 2 _ rfl, xc 3 _ rfl, ⟨_, xc 4 _ rfl, hA0.kept hk fun _ _ => id⟩, xc 5 _ rfl, xc 6 _ rfl, ⟨_, xc 7 _ rfl, hB0.kept hk fun _ _ => id⟩, slSn (hC0.kept hk fun _ _ => id) (xc 8 _ rfl), slSn (hD0.kept hk fun _ _ => id) (xc 9 _ rfl), ⟨hd, han1, hbn1, xc 10 _ rfl, xc 11 _ rfl, xc 12 _ rfl, xc 13 _ rfl, ⟨_, xc 14 _ rfl, hA1.kept hk fun _ _ => id⟩, xc 15 _ rfl, xc 16 _ rfl, ⟨_, xc 17 _ rfl, hB1.kept hk fun _ _ => id⟩, slSn (hC1.kept hk fun _ _ => id) (xc 18 _ rfl), slSn (hD1.kept hk fun _ _ => id) (xc 19 _ rfl), trivial⟩⟩⟩⟩
theorem buildS2 (l0_0 l0_1 l0_2 l0_3 l0_4 l0_5 l0_6 l0_7 l0_8 l0_9 l1_0 l1_1 l1_2 l1_3 l1_4 l1_5 l1_6 l1_7 l1_8 l1_9 : Value) (w : World) : (Instr.buildSlice 27 2 #[(0, .agg #[l0_0, l0_1, l0_2, l0_3, l0_4, l0_5, l0_6, l0_7, l0_8, l0_9]), (1, .agg #[l1_0, l1_1, l1_2, l1_3, l1_4, l1_5, l1_6, l1_7, l1_8, l1_9])]).run Tryd.prog w = .ok (.slice (some ⟨w.heap.size, 0, none⟩) 2 2) (w.alloc (.cells #[l0_0, l0_1, l0_2, l0_3, l0_4, l0_5, l0_6, l0_7, l0_8, l0_9, l1_0, l1_1, l1_2, l1_3, l1_4, l1_5, l1_6, l1_7, l1_8, l1_9] 29)) := by kernel_rfl
theorem sx3 {y : World} {D : Nat → Prop} {kind0 n0 ao0 bo0 : Int} {an0 bn0 nA0 cA0 nB0 cB0 nC0 cC0 nD0 cD0 : Nat} {aA0 aB0 aC0 aD0 : Option Addr} {ak0 bk0 : Ef} {body0 els0 : Sf} {kind1 n1 ao1 bo1 : Int} {an1 bn1 nA1 cA1 nB1 cB1 nC1 cC1 nD1 cD1 : Nat} {aA1 aB1 aC1 aD1 : Option Addr} {ak1 bk1 : Ef} {body1 els1 : Sf} {kind2 n2 ao2 bo2 : Int} {an2 bn2 nA2 cA2 nB2 cB2 nC2 cC2 nD2 cD2 : Nat} {aA2 aB2 aC2 aD2 : Option Addr} {ak2 bk2 : Ef} {body2 els2 : Sf} (hd : D y.heap.size) (hA0 : SlE y D (.slice aA0 nA0 cA0) ak0) (hB0 : SlE y D (.slice aB0 nB0 cB0) bk0) (hC0 : SlS y D (.slice aC0 nC0 cC0) body0) (hD0 : SlS y D (.slice aD0 nD0 cD0) els0) (han0 : an0 < 18446744073709551616) (hbn0 : bn0 < 18446744073709551616) (hA1 : SlE y D (.slice aA1 nA1 cA1) ak1) (hB1 : SlE y D (.slice aB1 nB1 cB1) bk1) (hC1 : SlS y D (.slice aC1 nC1 cC1) body1) (hD1 : SlS y D (.slice aD1 nD1 cD1) els1) (han1 : an1 < 18446744073709551616) (hbn1 : bn1 < 18446744073709551616) (hA2 : SlE y D (.slice aA2 nA2 cA2) ak2) (hB2 : SlE y D (.slice aB2 nB2 cB2) bk2) (hC2 : SlS y D (.slice aC2 nC2 cC2) body2) (hD2 : SlS y D (.slice aD2 nD2 cD2) els2) (han2 : an2 < 18446744073709551616) (hbn2 : bn2 < 18446744073709551616) :
    SlS (y.alloc (.cells #[.int .i64 kind0, .int .i64 n0, .int .i64 ao0, .int .u64 an0, .slice aA0 nA0 cA0, .int .i64 bo0, .int .u64 bn0, .slice aB0 nB0 cB0, .slice aC0 nC0 cC0, .slice aD0 nD0 cD0, .int .i64 kind1, .int .i64 n1, .int .i64 ao1, .int .u64 an1, .slice aA1 nA1 cA1, .int .i64 bo1, .int .u64 bn1, .slice aB1 nB1 cB1, .slice aC1 nC1 cC1, .slice aD1 nD1 cD1, .int .i64 kind2, .int .i64 n2, .int .i64 ao2, .int .u64 an2, .slice aA2 nA2 cA2, .int .i64 bo2, .int .u64 bn2, .slice aB2 nB2 cB2, .slice aC2 nC2 cC2, .slice aD2 nD2 cD2] 29)) D (.slice (some ⟨y.heap.size, 0, none⟩) 3 3) (.cons kind0 n0 ao0 an0 ak0 bo0 bn0 bk0 body0 els0 (.cons kind1 n1 ao1 an1 ak1 bo1 bn1 bk1 body1 els1 (.cons kind2 n2 ao2 an2 ak2 bo2 bn2 bk2 body2 els2 .nil))) := by
  have hk := kept_alloc9 y (.cells #[.int .i64 kind0, .int .i64 n0, .int .i64 ao0, .int .u64 an0, .slice aA0 nA0 cA0, .int .i64 bo0, .int .u64 bn0, .slice aB0 nB0 cB0, .slice aC0 nC0 cC0, .slice aD0 nD0 cD0, .int .i64 kind1, .int .i64 n1, .int .i64 ao1, .int .u64 an1, .slice aA1 nA1 cA1, .int .i64 bo1, .int .u64 bn1, .slice aB1 nB1 cB1, .slice aC1 nC1 cC1, .slice aD1 nD1 cD1, .int .i64 kind2, .int .i64 n2, .int .i64 ao2, .int .u64 an2, .slice aA2 nA2 cA2, .int .i64 bo2, .int .u64 bn2, .slice aB2 nB2 cB2, .slice aC2 nC2 cC2, .slice aD2 nD2 cD2] 29)
  exact ⟨_, 3, rfl, by simp [Sf.len], .inr ⟨y.heap.size, 0, rfl, ⟨hd, han0, hbn0, xc 0 _ rfl, xc 1 _ rfl, xc 2 _ rfl, xc 3 _ rfl, ⟨_, xc 4 _ rfl, hA0.kept hk fun _ _ => id⟩, xc 5 _ rfl, xc 6 _ rfl, ⟨_, xc 7 _ rfl, hB0.kept hk fun _ _ => id⟩, slSn (hC0.kept hk fun _ _ => id) (xc 8 _ rfl), slSn (hD0.kept hk fun _ _ => id) (xc 9 _ rfl), ⟨hd, han1, hbn1, xc 10 _ rfl, xc 11 _ rfl, xc 12 _ rfl, xc 13 _ rfl, ⟨_, xc 14 _ rfl, hA1.kept hk fun _ _ => id⟩, xc 15 _ rfl, xc 16 _ rfl, ⟨_, xc 17 _ rfl, hB1.kept hk fun _ _ => id⟩, slSn (hC1.kept hk fun _ _ => id) (xc 18 _ rfl), slSn (hD1.kept hk fun _ _ => id) (xc 19 _ rfl), ⟨hd, han2, hbn2, xc 20 _ rfl, xc 21 _ rfl, xc 22 _ rfl, xc 23 _ rfl, ⟨_, xc 24 _ rfl, hA2.kept hk fun _ _ => id⟩, xc 25 _ rfl, xc 26 _ rfl, ⟨_, xc 27 _ rfl, hB2.kept hk fun _ _ => id⟩, slSn (hC2.kept hk fun _ _ => id) (xc 28 _ rfl), slSn (hD2.kept hk fun _ _ => id) (xc 29 _ rfl), trivial⟩⟩⟩⟩⟩
theorem buildS3 (l0_0 l0_1 l0_2 l0_3 l0_4 l0_5 l0_6 l0_7 l0_8 l0_9 l1_0 l1_1 l1_2 l1_3 l1_4 l1_5 l1_6 l1_7 l1_8 l1_9 l2_0 l2_1 l2_2 l2_3 l2_4 l2_5 l2_6 l2_7 l2_8 l2_9 : Value) (w : World) : (Instr.buildSlice 27 3 #[(0, .agg #[l0_0, l0_1, l0_2, l0_3, l0_4, l0_5, l0_6, l0_7, l0_8, l0_9]), (1, .agg #[l1_0, l1_1, l1_2, l1_3, l1_4, l1_5, l1_6, l1_7, l1_8, l1_9]), (2, .agg #[l2_0, l2_1, l2_2, l2_3, l2_4, l2_5, l2_6, l2_7, l2_8, l2_9])]).run Tryd.prog w = .ok (.slice (some ⟨w.heap.size, 0, none⟩) 3 3) (w.alloc (.cells #[l0_0, l0_1, l0_2, l0_3, l0_4, l0_5, l0_6, l0_7, l0_8, l0_9, l1_0, l1_1, l1_2, l1_3, l1_4, l1_5, l1_6, l1_7, l1_8, l1_9, l2_0, l2_1, l2_2, l2_3, l2_4, l2_5, l2_6, l2_7, l2_8, l2_9] 29)) := by kernel_rfl
theorem buildF1 (l0 l1 l2 : Value) (w : World) : (Instr.buildSlice 33 1 #[(0, .agg #[l0, l1, l2])]).run Tryd.prog w = .ok (.slice (some ⟨w.heap.size, 0, none⟩) 1 1) (w.alloc (.cells #[l0, l1, l2] 32)) := by kernel_rfl
theorem fx1 {y : World} {p l : Int} {a : Option Addr} {n c : Nat} {x : Sf} (h : SlS y (fun _ => True) (.slice a n c) x) : SlP (y.alloc (.cells #[.int .i64 p, .int .i64 l, .slice a n c] 32)) (fun _ => True) (.slice (some ⟨y.heap.size, 0, none⟩) 1 1) [⟨p, l, x⟩] := by
  have hk := kept_alloc9 y (.cells #[.int .i64 p, .int .i64 l, .slice a n c] 32)
  refine ⟨_, 1, rfl, by simp, .inr ⟨y.heap.size, 0, rfl, fun i fn hi => ?_⟩⟩
  match i, hi with
  | 0, hi => cases hi; exact ⟨trivial, xc 0 _ rfl, xc 1 _ rfl, _, xc 2 _ rfl, h.kept hk fun _ _ => id⟩
  | i + 1, hi => simp at hi
/-- Blocks that are read are there. -/
theorem EfAt.lt {w : World} : ∀ (x : Ef) (b o : Nat), EfAt w (fun _ => True) x b o → EfAt w (fun k => k < w.heap.size) x b o
  | .nil, _, _, _ => trivial
  | .cons op n kids rest, b, o, h => by
    obtain ⟨h1, h2, h3, h4, ⟨a, c, h5, hl, h6⟩, h7⟩ := h
    refine ⟨inHeap h3, h2, h3, h4, ⟨a, c, h5, hl, ?_⟩, EfAt.lt rest b (o + 3) h7⟩
    rcases h6 with h6 | ⟨b', o', e, h6⟩
    · exact .inl h6
    · exact .inr ⟨b', o', e, EfAt.lt kids b' o' h6⟩
theorem SlE.lt {w : World} {V : Value} {x : Ef} (h : SlE w (fun _ => True) V x) : SlE w (fun k => k < w.heap.size) V x := by
  obtain ⟨a, c, rfl, hl, h⟩ := h
  refine ⟨a, c, rfl, hl, ?_⟩
  rcases h with h | ⟨b, o, e, h⟩
  · exact .inl h
  · exact .inr ⟨b, o, e, EfAt.lt x b o h⟩
theorem SfAt.lt {w : World} : ∀ (x : Sf) (b o : Nat), SfAt w (fun _ => True) x b o → SfAt w (fun k => k < w.heap.size) x b o
  | .nil, _, _, _ => trivial
  | .cons kind n ao an ak bo bn bk body els rest, b, o, h => by
    obtain ⟨h1, h2, h3, h4, h5, h6, h7, ⟨V, h8, h9⟩, h10, h11, ⟨U, h12, h13⟩, ⟨a, c, h14, hl, h15⟩, ⟨a', c', h16, hl', h17⟩, h18⟩ := h
    refine ⟨inHeap h4, h2, h3, h4, h5, h6, h7, ⟨V, h8, h9.lt⟩, h10, h11, ⟨U, h12, h13.lt⟩, ⟨a, c, h14, hl, ?_⟩, ⟨a', c', h16, hl', ?_⟩, SfAt.lt rest b (o + 10) h18⟩
    · rcases h15 with h | ⟨b', o', e, h⟩
      · exact .inl h
      · exact .inr ⟨b', o', e, SfAt.lt body b' o' h⟩
    · rcases h17 with h | ⟨b', o', e, h⟩
      · exact .inl h
      · exact .inr ⟨b', o', e, SfAt.lt els b' o' h⟩
theorem SlP.lt {w : World} {V : Value} {p : List Fn} (h : SlP w (fun _ => True) V p) : SlP w (fun k => k < w.heap.size) V p := by
  obtain ⟨a, c, rfl, hl, h⟩ := h
  refine ⟨a, c, rfl, hl, ?_⟩
  rcases h with h | ⟨b, o, e, h⟩
  · exact .inl h
  · refine .inr ⟨b, o, e, fun i fn hi => ?_⟩
    obtain ⟨h1, h2, h3, U, h4, a', c', e', hl', h5⟩ := h i fn hi
    refine ⟨inHeap h2, h2, h3, U, h4, a', c', e', hl', ?_⟩
    rcases h5 with h | ⟨b', o', e, h⟩
    · exact .inl h
    · exact .inr ⟨b', o', e, SfAt.lt _ b' o' h⟩
/-- An answer of word.Apply, some: sums and differences as they are. -/
noncomputable def ap (k a b c : Nat) : Nat := if k = 1 then (a + b) % 18446744073709551616 else if k = 2 then (a + (18446744073709551616 - b)) % 18446744073709551616 else if h : 1 ≤ k ∧ k ≤ 25 ∧ a < 18446744073709551616 ∧ b < 18446744073709551616 ∧ c < 18446744073709551616 then Classical.choose (W1.apply_ex k a b c h.1 h.2.1 h.2.2.1 h.2.2.2.1 h.2.2.2.2) else 0
end Ir
end Go.Proofs.YtcgpdijpppcbiaaDoor
namespace Go.Proofs.YtcgpdijpppcbiaaDoor
open Go.RowKit
set_option linter.unusedVariables false
namespace Ir
open Kc
theorem ap_ok (k a b c : Nat) (h1 : 1 ≤ k) (h25 : k ≤ 25) (ha : a < 18446744073709551616) (hb : b < 18446744073709551616) (hc : c < 18446744073709551616) : W1.App k a b c (ap k a b c) := by
  by_cases e1 : k = 1
  · subst e1
    refine ⟨by unfold ap; rw [if_pos rfl]; omega, fun w => (W1.app_add a b c w (W1.okU ha) (W1.okU hb)).mono ?_⟩
    rintro e w' ⟨he, hw⟩
    refine ⟨?_, 0, hw.symm⟩
    rw [he]
    have e : ((a : Int) + (b : Int)) % 18446744073709551616 = (((a + b) % 18446744073709551616 : Nat) : Int) := by omega
    unfold ap U.add
    rw [if_pos rfl, e]
  by_cases e2 : k = 2
  · subst e2
    refine ⟨by unfold ap; rw [if_neg (by decide), if_pos rfl]; omega, fun w => (W1.app_sub a b c w (W1.okU ha) (W1.okU hb)).mono ?_⟩
    rintro e w' ⟨he, hw⟩
    refine ⟨?_, 0, hw.symm⟩
    rw [he]
    have e : ((a : Int) - (b : Int)) % 18446744073709551616 = (((a + (18446744073709551616 - b)) % 18446744073709551616 : Nat) : Int) := by omega
    unfold ap U.sub
    rw [if_neg (by decide), if_pos rfl, e]
  unfold ap
  rw [if_neg e1, if_neg e2, dif_pos ⟨h1, h25, ha, hb, hc⟩]
  exact Classical.choose_spec (W1.apply_ex k a b c h1 h25 ha hb hc)
def x1 (op : Int) (n : Nat) : Ef := .cons op n .nil .nil
/-- The first of the fixed programs, and the second. -/
def body1 : Sf := .cons 1 0 1 0 (.cons 27 0 .nil (.cons 27 1 .nil .nil)) 0 0 .nil .nil .nil (.cons 1 1 2 0 (.cons 27 1 .nil (.cons 26 1 .nil .nil)) 0 0 .nil .nil .nil .nil)
def stm1 : Sf := .cons 1 1 26 5 .nil 0 0 .nil .nil .nil (.cons 4 0 27 1 .nil 0 0 .nil body1 .nil (.cons 5 0 27 0 .nil 0 0 .nil .nil .nil .nil))
def p1 : List Fn := [⟨0, 2, stm1⟩]
def p2 : List Fn := [⟨0, 0, .cons 5 0 28 0 (.cons 26 2048 .nil .nil) 0 0 .nil .nil .nil .nil⟩]
/-- A program that never ends. -/
def p3 : List Fn := [⟨0, 0, .cons 4 0 26 1 .nil 0 0 .nil .nil .nil .nil⟩]
def s0 (fuel : Nat) : Rs := ⟨fun _ => 0, fuel, 0, false, 0⟩
theorem right1 : right p1 = true := by rfl
theorem right2 : right p2 = true := by rfl
set_option maxRecDepth 100000 in
set_option maxHeartbeats 4000000 in
theorem run1 : ∃ s', stepCall p1 (sem p1 ap 20 6) 0 0 (fun _ => 0) (s0 999) = some (15, true, s') ∧ s'.dry = false := by
  have h : (stepCall p1 (sem p1 ap 20 6) 0 0 (fun _ => 0) (s0 999)).map (fun r => (r.1, r.2.1, r.2.2.dry)) = some (15, true, false) := by rfl
  cases hc : stepCall p1 (sem p1 ap 20 6) 0 0 (fun _ => 0) (s0 999) with
  | none => rw [hc] at h; cases h
  | some r =>
    obtain ⟨v, ok, s'⟩ := r
    rw [hc] at h
    simp at h
    obtain ⟨rfl, rfl, h⟩ := h
    exact ⟨s', rfl, h⟩
set_option maxRecDepth 100000 in
theorem run2 : ∃ s', stepCall p2 (sem p2 ap 3 6) 0 0 (fun _ => 0) (s0 9) = some (0, false, s') ∧ s'.dry = false ∧ s'.exit = wrong ∧ s'.used = 3 := by
  have h : (stepCall p2 (sem p2 ap 3 6) 0 0 (fun _ => 0) (s0 9)).map (fun r => (r.1, r.2.1, r.2.2.dry, r.2.2.exit, r.2.2.used)) = some (0, false, false, wrong, 3) := by rfl
  cases hc : stepCall p2 (sem p2 ap 3 6) 0 0 (fun _ => 0) (s0 9) with
  | none => rw [hc] at h; cases h
  | some r =>
    obtain ⟨v, ok, s'⟩ := r
    rw [hc] at h
    simp at h
    obtain ⟨rfl, rfl, h⟩ := h
    exact ⟨s', rfl, h.1, h.2.1, h.2.2⟩
theorem never (d : Nat) (L : Nat → Nat) (v : Nat) : ∀ (g G : Nat) (s : Rs), s.fuel - s.used < g → ∃ s', wh (sem p3 ap G (d + 1)) 26 1 .nil .nil g L v s = some (2, L, v, s') ∧ s'.dry = true
  | 0, _, _, h => by omega
  | g + 1, G, s, h => by
    unfold wh
    by_cases hu : s.used < s.fuel
    · rw [if_pos hu]
      have hval : (sem p3 ap G (d + 1)).val 26 1 .nil L s.up = if s.up.used < s.up.fuel then some (1, true, s.up.up) else some (0, false, s.up.dried) := by
        show stepVal p3 ap (sem p3 ap G d) 26 1 .nil L s.up = _
        unfold stepVal
        rfl
      rw [hval]
      by_cases hu2 : s.up.used < s.up.fuel
      · rw [if_pos hu2]
        dsimp only
        rw [if_neg (by decide)]
        have hl : (sem p3 ap G (d + 1)).lst .nil L v s.up.up = some (0, L, v, s.up.up) := rfl
        rw [hl]
        dsimp only
        rw [if_pos rfl]
        exact never d L v g G s.up.up (by show s.fuel - (s.used + 1 + 1) < g; have : s.used + 1 < s.fuel := hu2; omega)
      · rw [if_neg hu2]
        exact ⟨s.up.dried, rfl, rfl⟩
    · rw [if_neg hu]
      exact ⟨s.dried, rfl, rfl⟩
end Ir
end Go.Proofs.YtcgpdijpppcbiaaDoor
