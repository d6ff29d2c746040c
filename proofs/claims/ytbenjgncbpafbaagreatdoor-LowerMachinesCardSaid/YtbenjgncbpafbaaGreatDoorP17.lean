/- Merged of Lwj Lwk. Own work. -/
import Derived.Test.YtbenjgncbpafbaaGreatDoorP16
import Derived.SizedLaws
import Derived.WideShapes
namespace Go.Proofs.YtbenjgncbpafbaaGreatDoor
open Go.RowKit
set_option linter.unusedVariables false
set_option linter.unusedSimpArgs false
namespace Lo
open Kc Vm Ir
def uvv (f : Nat → Nat) : Nat → Value := fun i => .int .u64 (f i)
theorem loadMm {w : World} {b : Nat} {M : Mac} (h : IsMac w b M) : (Instr.loadAt 37 (.pointer (some ⟨b, 0, none⟩))).run Tryz.prog w = .ok (.agg (tab 8192 (uvv M.mem))) w := by
  have hi : (Tryz.prog.info? 37).map (·.size) = some 8192 := by kernel_rfl
  have hu : Tryz.prog.underlying 37 = some (.array 8192 36) := by kernel_rfl
  refine run_loadAt_mid w b 0 _ ((List.range 8192).map (uvv M.mem)) _ (fun j v hv => ?_) hu rfl (by rw [List.length_map, List.length_range]; exact hi)
  obtain ⟨hj, rfl⟩ := List.getElem?_eq_some_iff.1 hv
  simp only [List.length_map, List.length_range] at hj
  have := IsMac.mem h hj
  simpa [uvv] using this
theorem run_index_in {P : Program} {w : World} (t e : TypeId) (n : Nat) (cs : Array Value) (k : IntKind) (i : Nat) (v : Value) (h : P.underlying t = some (.array n e)) (h1 : (0 : Int) ≤ (i : Int) ∧ (i : Int) < (n : Int)) (hs : (sizeOf e).run P w = .ok 1 w) (hp : (part e cs (i * 1)).run P w = .ok v w) : (Instr.index t (.agg cs) (.int k i)).run P w = .ok v w := by
  have h2 : i < n := by omega
  rw [Nat.mul_one] at hp
  simp [go_sem, hs] at hp
  simp [Instr.index, run_underlying h, asIntOf, h2, go_sem, hs]
  exact hp
theorem idxMm (f : Nat → Nat) (i : Nat) (hi : i < 8192) (w : World) : (Instr.index 37 (.agg (tab 8192 (uvv f))) (.int .i64 i)).run Tryz.prog w = .ok (.int .u64 (f i)) w := by
  have hu : Tryz.prog.underlying 37 = some (.array 8192 36) := by kernel_rfl
  have hs : (sizeOf 36).run Tryz.prog w = .ok 1 w := by kernel_rfl
  have hp : (part 36 (tab 8192 (uvv f)) (i * 1)).run Tryz.prog w = .ok (.int .u64 (f i)) w := by
    have h2 := tab_at (n := 8192) (uvv f) hi
    have h3 : (sizeOf 36).run Tryz.prog w = .ok 1 w := hs
    unfold part
    simp [go_sem, h2, h3, uvv, Tryz.underlying36]
  exact run_index_in 37 36 8192 _ .i64 i _ hu ⟨by omega, by omega⟩ hs hp
theorem is_same (m : Int) (y : World) : Calls Tryz.prog 7 #[.iface 34 (.int .i64 m), .iface 34 (.int .i64 m)] y fun e w' => e = .returned (.bool true) ∧ y = w' := by
  have := Err.is_num m m y
  simpa using this
theorem build0 (w : World) : (Instr.buildSlice 22 0 #[]).run Tryz.prog w = .ok (.slice (some ⟨w.heap.size, 0, none⟩) 0 0) (w.alloc (.cells #[] 36)) := by kernel_rfl
theorem own0 (w : World) : (w.alloc (.cells #[] 36)).ownsRow 0 36 1 (.slice (some ⟨w.heap.size, 0, none⟩) 0 0) 0 [] :=
  ⟨rfl, .inr ⟨w.heap.size, 0, #[], rfl, Nat.zero_le _, heap_alloc_last w _, Nat.le_refl _, by decide, rfl, rfl⟩⟩
/-- Where the words come from. -/
theorem src_of {w : World} {a : Option Addr} {n c : Nat} {g : Nat → Nat} (h : IsUs w a n g) (h0 : a = none → n = 0 ∧ c = 0) : (a = none ∧ n = 0 ∧ c = 0 ∧ (List.range n).map (uvv g) = []) ∨ ∃ ad, a = some ad ∧ ((List.range n).map (uvv g)).length = n * 1 ∧ ∀ j u, ((List.range n).map (uvv g))[j]? = some u → w.cell? (ad.add j) = some u := by
  cases a with
  | none => obtain ⟨rfl, rfl⟩ := h0 rfl; exact .inl ⟨rfl, rfl, rfl, rfl⟩
  | some ad =>
    refine .inr ⟨ad, rfl, by simp, fun j u hu => ?_⟩
    have hj : j < n := by have := (List.getElem?_eq_some_iff.1 hu).1; simpa using this
    have e : u = uvv g j := by simpa [hj] using hu.symm
    rcases h with rfl | ⟨b, o, e2, hc⟩
    · omega
    · injection e2 with e2
      rw [e, e2, add_at]
      exact hc j hj
/-- A row of the call's own, as words. -/
theorem us_own {w : World} {V : Value} {n : Nat} {g : Nat → Nat} (h : w.ownsRow 0 36 1 V n ((List.range n).map (uvv g))) : ∃ a c, V = .slice a n c ∧ IsUs w a n g := by
  rcases Nat.eq_zero_or_pos n with h0 | h0
  · obtain ⟨a, c, e⟩ := row_slice h
    exact ⟨a, c, e, .inl h0⟩
  · obtain ⟨g9, cap, F, rfl, ht, hc, hf⟩ := tab_of h h0
    exact ⟨_, cap, rfl, .inr ⟨g9, 0, rfl, fun j hj => by rw [Nat.zero_add, ht.cell j (by omega), hf j hj]; rfl⟩⟩
theorem wpList_build0 {P : Program} {ops : Array Oper} {rest : List Oper} {op : Oper} {a : Act} {w : World} {Q : Exit → Act → World → Prop} (hgd : op.guard = none) (t : TypeId) (ho : op.op = .buildSlice t 0 #[]) (v : Value) (w' : World) (hl : (Instr.buildSlice t 0 #[]).run P w = .ok v w')
    (h : wpList P ops Q rest (a.put op.dst v) w') : wpList P ops Q (op :: rest) a w :=
  wpList_plain hgd fun _ hK => by
    unfold Oper.wp execOp
    simp only [ho, List.map_toArray, List.map_nil]
    simp [hl]
    exact hK _ _ h
set_option maxHeartbeats 4000000 in
set_option maxRecDepth 100000 in
theorem lm_bad (w : World) (a0 a2 : Option Addr) (n0 c0 n2 c2 : Nat) (g d : Nat → Nat) (hg : IsUs w a0 n0 g) (hd : IsUs w a2 n2 d) (hnone : a0 = none → n0 = 0 ∧ c0 = 0) (hsz : n0 ≤ maxLen ∧ n0 * 8 ≤ 140737488355328) (ht : Laid.KTab w) (k : Int) (hk : okB k = false) :
    Calls Tryz.prog 3 #[.slice a0 n0 c0, .int .i64 k, .slice a2 n2 c2] w fun e w' => e = .returned (.bool true) ∧ Kept (fun _ => False) w w' := by
  have HOK := Lib.hid hk
  clear hk
  have HW0 := Lib.hid (And.intro hg hd)
  have HT := Lib.hid ht
  obtain ⟨i0, hi0⟩ := infoW
  have HI := Lib.hid hi0
  have hk1 := kept_alloc9 w (.cells #[] 36)
  have HB0 := Lib.hid (build0 w)
  have HO0 := Lib.hid (own0 w)
  have HSRC := Lib.hid (src_of (hg.kept hk1) hnone)
  have HSZ := Lib.hid (show 0 + n0 ≤ maxLen ∧ (0 + n0) * 8 ≤ 140737488355328 by rw [Nat.zero_add]; exact hsz)
  have HK1 := Lib.hid hk1
  have HE1 := Lib.hid (show ∀ u ∈ (List.range n0).map (uvv g), u.oneCell' = true from fun u hu => by obtain ⟨j, _, rfl⟩ := List.mem_map.1 hu; rfl)
  clear hi0 hk1 hg hd ht hnone hsz
  generalize w.alloc (.cells #[] 36) = y1 at *
  generalize hb0 : w.heap.size = b0 at *
  have HB := Lib.hid hb0
  clear hb0
  go_enter Tryz.func3, Tryz.ntmps3
  go_upto_region 2 with (first
    | ((with_reducible refine wpList_build0 (P := Tryz.prog) ?_ 22 ?_ (.slice (some ⟨b0, 0, none⟩) 0 0) y1 HB0.out ?_); (· exact rfl); (· exact rfl))
    | ((with_reducible refine wpList_append_any (P := Tryz.prog) (w := y1) ?_ (.tmp 23) (.tmp 24) 22 ?_ 0 36 i0 (.int .u64 0) 1 8 undWs HI.out ?_ ?_ (.slice (some ⟨b0, 0, none⟩) 0 0) 0 [] ?_ HO0.out a0 n0 c0 ((List.range n0).map (uvv g)) ?_ HSRC.out HE1.out HSZ.out.1 HSZ.out.2 (Nat.zero_le _) ?_); (· exact rfl); (· exact rfl); (· simp [Value.cells]); (· decide); (· exact rfl); (· exact rfl); (intro V2 y2 hown hgr hat); (have hown2 : y2.ownsRow 0 36 1 V2 n0 ((List.range n0).map (uvv g)) := by simpa using hown); (obtain ⟨a1, c1, hv, hu⟩ := us_own hown2); subst hv; (have HU2 := Lib.hid hu); (have HK2 : Hid (Kept (fun _ => False) w y2) := Lib.hid (HK1.out.trans (T := fun k => k = b0) ⟨hgr.os, hgr.tape, hgr.output, hgr.size, fun k hk hn => hgr.block k hk (fun e => hn (by simpa [Value.ownBlock] using e))⟩ fun k hk e => by have := HB.out; omega)); clear hown hgr hat hown2 hu HB0 HO0 HSRC HSZ HE1 HK1)
    | ((with_reducible refine wpList_store_row (P := Tryz.prog) ?_ 24 (.tmp 7) (.tmp 27) ?_ _ #[.slice a1 n0 c1, .int .i64 k] ?_ ?_ 24 #[.slice none 0 0, .int .i64 0] (heap_alloc_last y2 _) infIm2 rfl (by simp [Value.oneCell']) ?_); (· exact rfl); (· exact rfl); (· exact rfl); (· exact rfl); rw [World.setRow_alloc_new]; simp only [Act.put]))
  have hk3 := kept_alloc9 y2 (.cells #[.slice a1 n0 c1, .int .i64 k] 24)
  have HB3 := Lib.hid (B2.new y2 (.slice a1 n0 c1) (.int .i64 k) 24)
  have HK3 := Lib.hid (HK2.out.trans hk3 fun _ _ e => e)
  have HU3 := Lib.hid (HU2.out.kept hk3)
  clear hk3 HU2 HK2
  generalize y2.alloc (.cells #[.slice a1 n0 c1, .int .i64 k] 24) = y3 at *
  generalize y2.heap.size = qi at *
  have HD3 := Lib.hid (HW0.out.2.kept HK3.out)
  have HL3 := Lib.hid HB3.out.load
  have HC := Lib.hid (machine_bad y3 a1 a2 n0 c1 n2 c2 k HOK.out)
  go_upto_region 3 with (first
    | ((with_reducible refine wpList_loadE (P := Tryz.prog) (w := y3) (ty := 24) (x := .tmp 7) (p := .pointer (some ⟨qi, 0, none⟩)) (v := .agg #[.slice a1 n0 c1, .int .i64 k]) ?_ ?_ ?_ HL3.out ?_); (· exact rfl); (· exact rfl); (· exact rfl))
    | (go_at_call 4; (with_reducible refine HC.out.mono ?_); rintro e y4 ⟨he, hk⟩; obtain rfl : e = _ := he; have HK4 := Lib.hid (HK3.out.trans hk fun _ _ e => e); have HB4 := Lib.hid (HB3.out.kept hk id); clear hk HC))
  clear HL3 HB3 HK3 HU3 HD3
  have HL4 := Lib.hid HB4.out.load
  have HC := Lib.hid (data_nil y4 a1 n0 c1 k)
  go_upto_region 4 with (first
    | ((with_reducible refine wpList_loadE (P := Tryz.prog) (w := y4) (ty := 24) (x := .tmp 7) (p := .pointer (some ⟨qi, 0, none⟩)) (v := .agg #[.slice a1 n0 c1, .int .i64 k]) ?_ ?_ ?_ HL4.out ?_); (· exact rfl); (· exact rfl); (· exact rfl))
    | (go_at_call 5; (with_reducible refine HC.out.mono ?_); rintro e y5 ⟨he, hk⟩; obtain rfl : e = _ := he; have HK5 := Lib.hid (HK4.out.trans hk fun _ _ e => e); have HB5 := Lib.hid (HB4.out.kept hk id); have HKA := Lib.hid hk; clear hk HC))
  clear HL4
  have HC := Lib.hid (fixed13_walk y5 (ktab_k HT.out HK5.out))
  go_upto_region 6 with (first
    | (go_at_call 6; (with_reducible refine HC.out.mono ?_); rintro e y6 ⟨he, hk⟩; obtain rfl : e = _ := he; have HK6 := Lib.hid (HK5.out.trans hk fun _ _ e => e); have HB6 := Lib.hid (HB5.out.kept hk id); have HKB := Lib.hid (HKA.out.trans hk fun _ _ e => e); clear hk HC)
    | (go_at_call 7; (with_reducible refine (is_same _ _).mono ?_); rintro e w1 ⟨he, rfl⟩; obtain rfl : e = _ := he))
  clear HK4 HB4 HK5 HB5 HKA HT
  have HC := Lib.hid (load_zero y6 none 0 (fun _ => 0))
  have HKK : Hid (k < 0 ∨ 6144 < k) := Lib.hid (by have := HOK.out; unfold okB at this; simp at this; omega)
  by_cases h0 : k < 0
  · have t1 : decide (k < 0) = true := by simpa using h0
    clear h0
    go_upto_region 8 with (go_at_call 8; (with_reducible refine HC.out.mono ?_); rintro e y7 ⟨he, _, hb⟩; obtain rfl : e = _ := he; have HK7 := Lib.hid (HK6.out.trans (Kept.ofBelow (S := fun _ => False) hb) fun _ _ e => e); have HB7 := Lib.hid (HB6.out.kept (Kept.ofBelow (S := fun _ => False) hb) id); clear hb HC)
    have HL7 := Lib.hid HB7.out.load
    have HC := Lib.hid (data_bad y7 a1 n0 c1 y6.heap.size k HOK.out)
    go_wp2_with (first
      | ((with_reducible refine wpList_loadE (P := Tryz.prog) (w := y7) (ty := 24) (x := .tmp 7) (p := .pointer (some ⟨qi, 0, none⟩)) (v := .agg #[.slice a1 n0 c1, .int .i64 k]) ?_ ?_ ?_ HL7.out ?_); (· exact rfl); (· exact rfl); (· exact rfl))
      | (go_at_call 5; (with_reducible refine HC.out.mono ?_); rintro e y8 ⟨he, hk⟩; obtain rfl : e = _ := he; have HK8 := Lib.hid (HK7.out.trans hk fun _ _ e => e); clear hk HC)
      | (go_at_call 7; (with_reducible refine (is_same _ _).mono ?_); rintro e w1 ⟨he, rfl⟩; obtain rfl : e = _ := he))
    exact bodyPost_ret (v := .bool true) (by simp [results, Tryz.results3, go_sem]) rfl ⟨rfl, HK8.out⟩
  · have t1 : decide (k < 0) = false := by simp; omega
    have t2 : decide (6144 < k) = true := by have := HKK.out; simp; omega
    clear h0
    go_upto_region 8 with (go_at_call 8; (with_reducible refine HC.out.mono ?_); rintro e y7 ⟨he, _, hb⟩; obtain rfl : e = _ := he; have HK7 := Lib.hid (HK6.out.trans (Kept.ofBelow (S := fun _ => False) hb) fun _ _ e => e); have HB7 := Lib.hid (HB6.out.kept (Kept.ofBelow (S := fun _ => False) hb) id); clear hb HC)
    have HL7 := Lib.hid HB7.out.load
    have HC := Lib.hid (data_bad y7 a1 n0 c1 y6.heap.size k HOK.out)
    go_wp2_with (first
      | ((with_reducible refine wpList_loadE (P := Tryz.prog) (w := y7) (ty := 24) (x := .tmp 7) (p := .pointer (some ⟨qi, 0, none⟩)) (v := .agg #[.slice a1 n0 c1, .int .i64 k]) ?_ ?_ ?_ HL7.out ?_); (· exact rfl); (· exact rfl); (· exact rfl))
      | (go_at_call 5; (with_reducible refine HC.out.mono ?_); rintro e y8 ⟨he, hk⟩; obtain rfl : e = _ := he; have HK8 := Lib.hid (HK7.out.trans hk fun _ _ e => e); clear hk HC)
      | (go_at_call 7; (with_reducible refine (is_same _ _).mono ?_); rintro e w1 ⟨he, rfl⟩; obtain rfl : e = _ := he))
    exact bodyPost_ret (v := .bool true) (by simp [results, Tryz.results3, go_sem]) rfl ⟨rfl, HK8.out⟩
set_option maxHeartbeats 4000000 in
set_option maxRecDepth 100000 in
theorem lm_full (w : World) (a0 a2 : Option Addr) (n0 c0 n2 c2 : Nat) (g d : Nat → Nat) (hg : IsUs w a0 n0 g) (hd : IsUs w a2 n2 d) (hnone : a0 = none → n0 = 0 ∧ c0 = 0) (hsz : n0 ≤ maxLen ∧ n0 * 8 ≤ 140737488355328) (ht : Laid.KTab w) (F : Nat) (hF : F ≤ 6144) (hb : F < n0 ∨ 2048 < n2) :
    Calls Tryz.prog 3 #[.slice a0 n0 c0, .int .i64 F, .slice a2 n2 c2] w fun e w' => e = .returned (.bool true) ∧ Kept (fun _ => False) w w' := by
  have HF := Lib.hid (And.intro hF hb)
  clear hF hb
  have HW0 := Lib.hid (And.intro hg hd)
  have HT := Lib.hid ht
  obtain ⟨i0, hi0⟩ := infoW
  have HI := Lib.hid hi0
  have hk1 := kept_alloc9 w (.cells #[] 36)
  have HB0 := Lib.hid (build0 w)
  have HO0 := Lib.hid (own0 w)
  have HSRC := Lib.hid (src_of (hg.kept hk1) hnone)
  have HSZ := Lib.hid (show 0 + n0 ≤ maxLen ∧ (0 + n0) * 8 ≤ 140737488355328 by rw [Nat.zero_add]; exact hsz)
  have HK1 := Lib.hid hk1
  have HE1 := Lib.hid (show ∀ u ∈ (List.range n0).map (uvv g), u.oneCell' = true from fun u hu => by obtain ⟨j, _, rfl⟩ := List.mem_map.1 hu; rfl)
  clear hi0 hk1 hg hd ht hnone hsz
  generalize w.alloc (.cells #[] 36) = y1 at *
  generalize hb0 : w.heap.size = b0 at *
  have HB := Lib.hid hb0
  clear hb0
  go_enter Tryz.func3, Tryz.ntmps3
  go_upto_region 2 with (first
    | ((with_reducible refine wpList_build0 (P := Tryz.prog) ?_ 22 ?_ (.slice (some ⟨b0, 0, none⟩) 0 0) y1 HB0.out ?_); (· exact rfl); (· exact rfl))
    | ((with_reducible refine wpList_append_any (P := Tryz.prog) (w := y1) ?_ (.tmp 23) (.tmp 24) 22 ?_ 0 36 i0 (.int .u64 0) 1 8 undWs HI.out ?_ ?_ (.slice (some ⟨b0, 0, none⟩) 0 0) 0 [] ?_ HO0.out a0 n0 c0 ((List.range n0).map (uvv g)) ?_ HSRC.out HE1.out HSZ.out.1 HSZ.out.2 (Nat.zero_le _) ?_); (· exact rfl); (· exact rfl); (· simp [Value.cells]); (· decide); (· exact rfl); (· exact rfl); (intro V2 y2 hown hgr hat); (have hown2 : y2.ownsRow 0 36 1 V2 n0 ((List.range n0).map (uvv g)) := by simpa using hown); (obtain ⟨a1, c1, hv, hu⟩ := us_own hown2); subst hv; (have HU2 := Lib.hid hu); (have HK2 : Hid (Kept (fun _ => False) w y2) := Lib.hid (HK1.out.trans (T := fun k => k = b0) ⟨hgr.os, hgr.tape, hgr.output, hgr.size, fun k hk hn => hgr.block k hk (fun e => hn (by simpa [Value.ownBlock] using e))⟩ fun k hk e => by have := HB.out; omega)); clear hown hgr hat hown2 hu HB0 HO0 HSRC HSZ HE1 HK1)
    | ((with_reducible refine wpList_store_row (P := Tryz.prog) ?_ 24 (.tmp 7) (.tmp 27) ?_ _ #[.slice a1 n0 c1, .int .i64 F] ?_ ?_ 24 #[.slice none 0 0, .int .i64 0] (heap_alloc_last y2 _) infIm2 rfl (by simp [Value.oneCell']) ?_); (· exact rfl); (· exact rfl); (· exact rfl); (· exact rfl); rw [World.setRow_alloc_new]; simp only [Act.put]))
  have hk3 := kept_alloc9 y2 (.cells #[.slice a1 n0 c1, .int .i64 F] 24)
  have HB3 := Lib.hid (B2.new y2 (.slice a1 n0 c1) (.int .i64 F) 24)
  have HK3 := Lib.hid (HK2.out.trans hk3 fun _ _ e => e)
  have HU3 := Lib.hid (HU2.out.kept hk3)
  clear hk3 HU2 HK2
  generalize y2.alloc (.cells #[.slice a1 n0 c1, .int .i64 F] 24) = y3 at *
  generalize y2.heap.size = qi at *
  have HD3 := Lib.hid (HW0.out.2.kept HK3.out)
  have HL3 := Lib.hid HB3.out.load
  have HC := Lib.hid (machine_full y3 a1 a2 n0 c1 n2 c2 F HF.out.1 HF.out.2)
  go_upto_region 3 with (first
    | ((with_reducible refine wpList_loadE (P := Tryz.prog) (w := y3) (ty := 24) (x := .tmp 7) (p := .pointer (some ⟨qi, 0, none⟩)) (v := .agg #[.slice a1 n0 c1, .int .i64 F]) ?_ ?_ ?_ HL3.out ?_); (· exact rfl); (· exact rfl); (· exact rfl))
    | (go_at_call 4; (with_reducible refine HC.out.mono ?_); rintro e y4 ⟨he, hk⟩; obtain rfl : e = _ := he; have HK4 := Lib.hid (HK3.out.trans hk fun _ _ e => e); have HB4 := Lib.hid (HB3.out.kept hk id); clear hk HC))
  clear HL3 HB3 HK3 HU3 HD3
  have HL4 := Lib.hid HB4.out.load
  have HC := Lib.hid (data_nil y4 a1 n0 c1 F)
  go_upto_region 4 with (first
    | ((with_reducible refine wpList_loadE (P := Tryz.prog) (w := y4) (ty := 24) (x := .tmp 7) (p := .pointer (some ⟨qi, 0, none⟩)) (v := .agg #[.slice a1 n0 c1, .int .i64 F]) ?_ ?_ ?_ HL4.out ?_); (· exact rfl); (· exact rfl); (· exact rfl))
    | (go_at_call 5; (with_reducible refine HC.out.mono ?_); rintro e y5 ⟨he, hk⟩; obtain rfl : e = _ := he; have HK5 := Lib.hid (HK4.out.trans hk fun _ _ e => e); have HB5 := Lib.hid (HB4.out.kept hk id); have HKA := Lib.hid hk; clear hk HC))
  clear HL4
  have HC := Lib.hid (fixed13_walk y5 (ktab_k HT.out HK5.out))
  go_upto_region 6 with (first
    | (go_at_call 6; (with_reducible refine HC.out.mono ?_); rintro e y6 ⟨he, hk⟩; obtain rfl : e = _ := he; have HK6 := Lib.hid (HK5.out.trans hk fun _ _ e => e); have HB6 := Lib.hid (HB5.out.kept hk id); have HKB := Lib.hid (HKA.out.trans hk fun _ _ e => e); clear hk HC)
    | (go_at_call 7; (with_reducible refine (is_same _ _).mono ?_); rintro e w1 ⟨he, rfl⟩; obtain rfl : e = _ := he))
  clear HK4 HB4 HK5 HB5 HKA HT
  have t1 : decide ((F : Int) < 0) = false := by simp
  have t2 : decide (6144 < (F : Int)) = false := by have := HF.out; simp; omega
  go_upto_region 10 with (fail)
  clear t1 t2
  by_cases h1 : F < n0
  · have t1 : decide (F < n0) = true := by simpa using h1
    clear h1
    go_wp2_with (go_at_call 7; (with_reducible refine (is_same _ _).mono ?_); rintro e w1 ⟨he, rfl⟩; obtain rfl : e = _ := he)
    exact bodyPost_ret (v := .bool true) (by simp [results, Tryz.results3, go_sem]) rfl ⟨rfl, HK6.out⟩
  · have t1 : decide (F < n0) = false := by simpa using h1
    have t2 : decide (2048 < (n2 : Int)) = true := by have := HF.out.2; simp; omega
    clear h1
    go_wp2_with (go_at_call 7; (with_reducible refine (is_same _ _).mono ?_); rintro e w1 ⟨he, rfl⟩; obtain rfl : e = _ := he)
    exact bodyPost_ret (v := .bool true) (by simp [results, Tryz.results3, go_sem]) rfl ⟨rfl, HK6.out⟩
end Lo
end Go.Proofs.YtbenjgncbpafbaaGreatDoor
namespace Go.Proofs.YtbenjgncbpafbaaGreatDoor
open Go.RowKit Go.ChangeShapes Go.WideShapes
set_option linter.unusedVariables false
set_option linter.unusedSimpArgs false
namespace Lo
open Kc Vm Ir
theorem ixW (b o n c j : Nat) (hj : j < n) (w : World) : (Instr.indexAt 22 (.slice (some ⟨b, o, none⟩) n c) (.int .i64 j)).run Tryz.prog w = .ok (.pointer (some ⟨b, o + j, none⟩)) w := by
  have h1 : (j : Int) < (n : Int) := by omega
  simp [go_sem, h1, Tryz.underlying22, add_at]
theorem ixW0 (b n c j : Nat) (hj : j < n) (w : World) : (Instr.indexAt 22 (.slice (some ⟨b, 0, none⟩) n c) (.int .i64 j)).run Tryz.prog w = .ok (.pointer (some ⟨b, j, none⟩)) w := by
  have := ixW b 0 n c j hj w
  rwa [Nat.zero_add] at this
theorem img_lo {n F k j : Nat} {g d : Nat → Nat} (h : j < n) (h2 : j < F) : (imgM n g F k d).mem j = g j := by
  unfold imgM
  simp only
  rw [if_neg (by omega), if_pos h]
theorem img_mid {n F k j : Nat} {g d : Nat → Nat} (h : n ≤ j) (h2 : ¬ (F ≤ j ∧ j < F + k)) : (imgM n g F k d).mem j = 0 := by
  unfold imgM
  simp only
  rw [if_neg h2, if_neg (by omega)]
theorem img_hi {n F k e : Nat} {g d : Nat → Nat} (h : e < k) : (imgM n g F k d).mem (F + e) = d e := by
  unfold imgM
  simp only
  rw [if_pos (by omega), Nat.add_sub_cancel_left]
/-- The told memory, a number more in each of the first words. -/
def incF (M : Mac) (F j : Nat) (f : Nat → Value) : Nat → Value := fun i => if i < j then .int .u64 (IntKind.u64.wrap ((M.mem (F + i) : Int) + 1)) else f i
set_option maxHeartbeats 8000000 in
set_option maxRecDepth 100000 in
theorem lm_ok (w : World) (a0 a2 : Option Addr) (n0 c0 n2 c2 : Nat) (g d : Nat → Nat) (hg : IsUs w a0 n0 g) (hd : IsUs w a2 n2 d) (hnone : a0 = none → n0 = 0 ∧ c0 = 0) (hsz : n0 ≤ maxLen ∧ n0 * 8 ≤ 140737488355328) (ht : Laid.KTab w) (F : Nat) (hF : F ≤ 6144) (hn : n0 ≤ F) (hn2 : n2 ≤ 2048) :
    Calls Tryz.prog 3 #[.slice a0 n0 c0, .int .i64 F, .slice a2 n2 c2] w fun e w' => e = .returned (.bool true) ∧ Kept (fun _ => False) w w' := by
  have HF := Lib.hid (And.intro hF (And.intro hn hn2))
  clear hF hn hn2
  have HW0 := Lib.hid (And.intro hg hd)
  have HT := Lib.hid ht
  obtain ⟨i0, hi0⟩ := infoW
  have HI := Lib.hid hi0
  have hk1 := kept_alloc9 w (.cells #[] 36)
  have HB0 := Lib.hid (build0 w)
  have HO0 := Lib.hid (own0 w)
  have HSRC := Lib.hid (src_of (hg.kept hk1) hnone)
  have HSZ := Lib.hid (show 0 + n0 ≤ maxLen ∧ (0 + n0) * 8 ≤ 140737488355328 by rw [Nat.zero_add]; exact hsz)
  have HK1 := Lib.hid hk1
  have HE1 := Lib.hid (show ∀ u ∈ (List.range n0).map (uvv g), u.oneCell' = true from fun u hu => by obtain ⟨j, _, rfl⟩ := List.mem_map.1 hu; rfl)
  clear hi0 hk1 hg hd ht hnone hsz
  generalize w.alloc (.cells #[] 36) = y1 at *
  generalize hb0 : w.heap.size = b0 at *
  have HB := Lib.hid hb0
  clear hb0
  go_enter Tryz.func3, Tryz.ntmps3
  go_upto_region 2 with (first
    | ((with_reducible refine wpList_build0 (P := Tryz.prog) ?_ 22 ?_ (.slice (some ⟨b0, 0, none⟩) 0 0) y1 HB0.out ?_); (· exact rfl); (· exact rfl))
    | ((with_reducible refine wpList_append_any (P := Tryz.prog) (w := y1) ?_ (.tmp 23) (.tmp 24) 22 ?_ 0 36 i0 (.int .u64 0) 1 8 undWs HI.out ?_ ?_ (.slice (some ⟨b0, 0, none⟩) 0 0) 0 [] ?_ HO0.out a0 n0 c0 ((List.range n0).map (uvv g)) ?_ HSRC.out HE1.out HSZ.out.1 HSZ.out.2 (Nat.zero_le _) ?_); (· exact rfl); (· exact rfl); (· simp [Value.cells]); (· decide); (· exact rfl); (· exact rfl); (intro V2 y2 hown hgr hat); (have hown2 : y2.ownsRow 0 36 1 V2 n0 ((List.range n0).map (uvv g)) := by simpa using hown); (obtain ⟨a1, c1, hv, hu⟩ := us_own hown2); subst hv; (have HU2 := Lib.hid hu); (have HK2 : Hid (Kept (fun _ => False) w y2) := Lib.hid (HK1.out.trans (T := fun k => k = b0) ⟨hgr.os, hgr.tape, hgr.output, hgr.size, fun k hk hn => hgr.block k hk (fun e => hn (by simpa [Value.ownBlock] using e))⟩ fun k hk e => by have := HB.out; omega)); clear hown hgr hat hown2 hu HB0 HO0 HSRC HSZ HE1 HK1)
    | ((with_reducible refine wpList_store_row (P := Tryz.prog) ?_ 24 (.tmp 7) (.tmp 27) ?_ _ #[.slice a1 n0 c1, .int .i64 F] ?_ ?_ 24 #[.slice none 0 0, .int .i64 0] (heap_alloc_last y2 _) infIm2 rfl (by simp [Value.oneCell']) ?_); (· exact rfl); (· exact rfl); (· exact rfl); (· exact rfl); rw [World.setRow_alloc_new]; simp only [Act.put]))
  have hk3 := kept_alloc9 y2 (.cells #[.slice a1 n0 c1, .int .i64 F] 24)
  have HB3 := Lib.hid (B2.new y2 (.slice a1 n0 c1) (.int .i64 F) 24)
  have HK3 := Lib.hid (HK2.out.trans hk3 fun _ _ e => e)
  have HU3 := Lib.hid (HU2.out.kept hk3)
  clear hk3 HU2 HK2
  generalize y2.alloc (.cells #[.slice a1 n0 c1, .int .i64 F] 24) = y3 at *
  generalize y2.heap.size = qi at *
  have HD3 := Lib.hid (HW0.out.2.kept HK3.out)
  have HL3 := Lib.hid HB3.out.load
  have HC := Lib.hid (machine_ok y3 a1 a2 n0 c1 n2 c2 F g d HF.out.1 HF.out.2.1 HF.out.2.2 HU3.out HD3.out)
  go_upto_region 3 with (first
    | ((with_reducible refine wpList_loadE (P := Tryz.prog) (w := y3) (ty := 24) (x := .tmp 7) (p := .pointer (some ⟨qi, 0, none⟩)) (v := .agg #[.slice a1 n0 c1, .int .i64 F]) ?_ ?_ ?_ HL3.out ?_); (· exact rfl); (· exact rfl); (· exact rfl))
    | (go_at_call 4; (with_reducible refine HC.out.mono ?_); rintro e y4 ⟨q, he, hm, hq, hk⟩; obtain rfl : e = _ := he; have HK4 := Lib.hid (HK3.out.trans hk fun _ _ e => e); have HB4 := Lib.hid (HB3.out.kept hk id); have HM4 := Lib.hid hm; clear hm; clear hk HC))
  clear HL3 HB3 HK3 HU3 HD3
  have HL4 := Lib.hid HB4.out.load
  have HC := Lib.hid (data_nil y4 a1 n0 c1 F)
  go_upto_region 4 with (first
    | ((with_reducible refine wpList_loadE (P := Tryz.prog) (w := y4) (ty := 24) (x := .tmp 7) (p := .pointer (some ⟨qi, 0, none⟩)) (v := .agg #[.slice a1 n0 c1, .int .i64 F]) ?_ ?_ ?_ HL4.out ?_); (· exact rfl); (· exact rfl); (· exact rfl))
    | (go_at_call 5; (with_reducible refine HC.out.mono ?_); rintro e y5 ⟨he, hk⟩; obtain rfl : e = _ := he; have HK5 := Lib.hid (HK4.out.trans hk fun _ _ e => e); have HB5 := Lib.hid (HB4.out.kept hk id); have HKA := Lib.hid hk; clear hk HC))
  clear HL4
  have HC := Lib.hid (fixed13_walk y5 (ktab_k HT.out HK5.out))
  go_upto_region 6 with (first
    | (go_at_call 6; (with_reducible refine HC.out.mono ?_); rintro e y6 ⟨he, hk⟩; obtain rfl : e = _ := he; have HK6 := Lib.hid (HK5.out.trans hk fun _ _ e => e); have HB6 := Lib.hid (HB5.out.kept hk id); have HKB := Lib.hid (HKA.out.trans hk fun _ _ e => e); clear hk HC)
    | (go_at_call 7; (with_reducible refine (is_same _ _).mono ?_); rintro e w1 ⟨he, rfl⟩; obtain rfl : e = _ := he))
  clear HK4 HB4 HK5 HB5 HKA HT
  have HM6 : Hid (IsMac y6 q (imgM n0 g F n2 d)) := Lib.hid (IsMac.kept HM4.out HKB.out id)
  have t1 : decide ((F : Int) < 0) = false := by simp
  have t2 : decide (6144 < (F : Int)) = false := by have := HF.out; simp; omega
  go_upto_region 10 with (fail)
  clear t1 t2
  have t1 : decide (F < n0) = false := by have := HF.out; simp; omega
  have t2 : decide (2048 < (n2 : Int)) = false := by have := HF.out; simp; omega
  go_upto_region 12 with (fail)
  clear t1 t2
  have k1 : y6.cell? ⟨q, 8208, none⟩ = some (.int .u64 0) := HM6.out.pc
  have k2 : y6.cell? ⟨q, 8209, none⟩ = some (.bool false) := HM6.out.halted
  have k3 : y6.cell? ⟨q, 8210, none⟩ = some (.int .u64 0) := HM6.out.exit
  go_upto_region 14 with (fail)
  clear k1 k2 k3 HM4 HKB
  have HL6 := Lib.hid HB6.out.load
  have HC := Lib.hid (data_ok y6 a1 n0 c1 q F (imgM n0 g F n2 d) HF.out.1 HM6.out)
  go_upto_region 17 with (first
    | ((with_reducible refine wpList_loadE (P := Tryz.prog) (w := y6) (ty := 24) (x := .tmp 7) (p := .pointer (some ⟨qi, 0, none⟩)) (v := .agg #[.slice a1 n0 c1, .int .i64 F]) ?_ ?_ ?_ HL6.out ?_); (· exact rfl); (· exact rfl); (· exact rfl))
    | (go_at_call 5; (with_reducible refine HC.out.mono ?_); rintro e y7 ⟨g7, cap7, f7, he, ht, hc7, hf7, hg7, hk⟩; obtain rfl : e = _ := he; have HK7 := Lib.hid (HK6.out.trans hk fun _ _ e => e); have HB7 := Lib.hid (HB6.out.kept hk id); have HM7 := Lib.hid (IsMac.kept HM6.out hk id); have HT7 := Lib.hid (And.intro ht (And.intro hc7 hf7)); have HG7 : Hid (¬ qi = g7 ∧ ¬ q = g7 ∧ w.heap.size ≤ g7) := Lib.hid ⟨(by have := inHeap HB6.out.c0; omega), (by have := HM6.out.lt; omega), (by have := HK6.out.size; omega)⟩; clear ht hc7 hf7 hg7 hk HC))
  clear HL6 HB6 HM6
  have HLM := Lib.hid (loadMm HM7.out)
  obtain ⟨cm, hcm⟩ : ∃ cm, tab 8192 (uvv (imgM n0 g F n2 d).mem) = cm := ⟨_, rfl⟩
  have HCM := Lib.hid hcm
  rw [hcm] at HLM
  clear hcm
  go_upto_region 18 with ((with_reducible refine wpList_loadE (P := Tryz.prog) (w := y7) (ty := 37) (x := .tmp 136) (p := .pointer (some ⟨q, 0, none⟩)) (v := .agg cm) ?_ ?_ ?_ HLM.out ?_); (· exact rfl); (· exact rfl); (· exact rfl))
  have HW7 := Lib.hid (And.intro (HW0.out.1.kept HK7.out) (HW0.out.2.kept HK7.out))
  go_loopw [138] (fun t y => ∃ j : Nat, t = .int .i64 j ∧ Hid (j ≤ 8192) ∧ y7 = y) (fun t _ => 8192 - (intOf t).toNat)
  case atStart => exact ⟨0, rfl, Lib.hid (Nat.zero_le _), rfl⟩
  case round =>
    obtain ⟨j, rfl, hp, rfl⟩ := hrel
    have HP := Lib.hid hp.out
    clear hp HLM
    by_cases hlt : (j : Int) < 8192
    · have hl8 : j < 8192 := by omega
      have hix := fun u : World => idxMm (imgM n0 g F n2 d).mem j hl8 u
      rw [HCM.out] at hix
      have HJ : Hid (j < 8192 ∧ wrap64 ((j : Int) + 1) = ((j + 1 : Nat) : Int)) := Lib.hid ⟨hl8, wrap_up j (by omega)⟩
      clear hl8
      by_cases h1 : j < n0
      · obtain ⟨b, o, rfl, hs⟩ : ∃ b o, a0 = some ⟨b, o, none⟩ ∧ ∀ j, j < n0 → y7.cell? ⟨b, o + j, none⟩ = some (.int .u64 (g j)) := by
          rcases HW7.out.1 with h | h
          · omega
          · exact h
        have kc := hs j h1
        have hia := fun u : World => ixW b o n0 c0 j h1 u
        rw [img_lo h1 (by have := HF.out; omega)] at hix
        obtain ⟨X, hX⟩ : ∃ X, g j = X := ⟨_, rfl⟩
        rw [hX] at kc hix
        have t1 : decide (j < n0) = true := by simpa using h1
        have t2 : decide (F ≤ j) = false := by have := HF.out; simp; omega
        have hw1 := HJ.out.2
        clear hs hX h1
        go_wp2_with (fail)
        go_roundw
        case rel => exact ⟨j + 1, by go_num, Lib.hid HJ.out.1, by first | rfl | trivial⟩
        case measure => exact (show 8192 - (j + 1) < 8192 - j from Nat.sub_lt_sub_left HJ.out.1 (Nat.lt_succ_self j))
      · have t1 : decide (j < n0) = false := by simpa using h1
        have HN1 := Lib.hid (show n0 ≤ j by omega)
        clear h1
        by_cases h2 : F ≤ j
        · obtain ⟨e, he⟩ : ∃ e, j = F + e := ⟨j - F, by omega⟩
          have HE := Lib.hid he
          have t2 : decide (F ≤ j) = true := by simpa using h2
          have hsub : wrap64 ((j : Int) - (F : Int)) = (e : Int) := by have := HF.out.1; unfold wrap64; omega
          clear he h2
          by_cases h3 : e < n2
          · obtain ⟨b, o, rfl, hs⟩ : ∃ b o, a2 = some ⟨b, o, none⟩ ∧ ∀ j, j < n2 → y7.cell? ⟨b, o + j, none⟩ = some (.int .u64 (d j)) := by
              rcases HW7.out.2 with h | h
              · omega
              · exact h
            have kc := hs e h3
            have hia := fun u : World => ixW b o n2 c2 e h3 u
            have h4 : e < 2048 := by have := HF.out; omega
            have hib := fun u : World => ixW0 g7 2048 cap7 e h4 u
            have kd : y7.cell? ⟨g7, e, none⟩ = some (.int .u64 (d e)) := by
              rw [HT7.out.1.cell e (by have := HT7.out.2.1; omega), HT7.out.2.2 e h4, img_hi h3]
            rw [HE.out, img_hi h3, ← HE.out] at hix
            obtain ⟨X, hX⟩ : ∃ X, d e = X := ⟨_, rfl⟩
            rw [hX] at kc hix kd
            have t3 : decide (e < n2) = true := by simpa using h3
            have t4 : decide ((e : Int) < 2048) = true := by simp; omega
            have hw1 := HJ.out.2
            clear hs hX h3 h4
            go_wp2_with (fail)
            go_roundw
            case rel => exact ⟨j + 1, by go_num, Lib.hid HJ.out.1, by first | rfl | trivial⟩
            case measure => exact (show 8192 - (j + 1) < 8192 - j from Nat.sub_lt_sub_left HJ.out.1 (Nat.lt_succ_self j))
          · rw [img_mid HN1.out (by have := HE.out; omega)] at hix
            have t3 : decide (e < n2) = false := by simpa using h3
            by_cases h4 : e < 2048
            · have hib := fun u : World => ixW0 g7 2048 cap7 e h4 u
              have kd : y7.cell? ⟨g7, e, none⟩ = some (.int .u64 0) := by
                rw [HT7.out.1.cell e (by have := HT7.out.2.1; omega), HT7.out.2.2 e h4, img_mid (by have := HN1.out; have := HE.out; omega) (by omega)]
                rfl
              have t4 : decide ((e : Int) < 2048) = true := by simp; omega
              have hw1 := HJ.out.2
              clear h3 h4
              go_wp2_with (fail)
              go_roundw
              case rel => exact ⟨j + 1, by go_num, Lib.hid HJ.out.1, by first | rfl | trivial⟩
              case measure => exact (show 8192 - (j + 1) < 8192 - j from Nat.sub_lt_sub_left HJ.out.1 (Nat.lt_succ_self j))
            · have t4 : decide ((e : Int) < 2048) = false := by simp; omega
              have hw1 := HJ.out.2
              clear h3 h4
              go_wp2_with (fail)
              go_roundw
              case rel => exact ⟨j + 1, by go_num, Lib.hid HJ.out.1, by first | rfl | trivial⟩
              case measure => exact (show 8192 - (j + 1) < 8192 - j from Nat.sub_lt_sub_left HJ.out.1 (Nat.lt_succ_self j))
        · have t2 : decide (F ≤ j) = false := by simpa using h2
          rw [img_mid HN1.out (by omega)] at hix
          have hw1 := HJ.out.2
          clear h2
          go_wp2_with (fail)
          go_roundw
          case rel => exact ⟨j + 1, by go_num, Lib.hid HJ.out.1, by first | rfl | trivial⟩
          case measure => exact (show 8192 - (j + 1) < 8192 - j from Nat.sub_lt_sub_left HJ.out.1 (Nat.lt_succ_self j))
    · obtain rfl : j = 8192 := by have := HP.out; omega
      have t1 : decide (((8192 : Nat) : Int) < 8192) = false := by decide
      have t1' : decide ((8192 : Int) < 8192) = false := by decide
      clear hlt HP HW7
      go_upto_region 29 with (fail)
      have H29 : Hid (IsTab y7 g7 36 cap7 (incF (imgM n0 g F n2 d) F 0 f7) ∧ Kept (fun k => k = g7) y7 y7) := Lib.hid ⟨HT7.out.1.cong fun i hi => by unfold incF; rw [if_neg (by omega)], Kept.refl _ _⟩
      clear t1 t1' HCM
      go_loopw [194] (fun t y => ∃ j : Nat, t = .int .i64 j ∧ Hid (j ≤ 2048 ∧ IsTab y g7 36 cap7 (incF (imgM n0 g F n2 d) F j f7) ∧ Kept (fun k => k = g7) y7 y)) (fun t _ => 2048 - (intOf t).toNat)
      case atStart => exact ⟨0, rfl, Lib.hid ⟨Nat.zero_le _, H29.out⟩⟩
      case round =>
        obtain ⟨j, rfl, hp⟩ := hrel
        have HP := Lib.hid hp.out
        clear hp H29
        by_cases hlt : j < 2048
        · have t1 : decide ((j : Int) < 2048) = true := by simp; omega
          have hib := fun u : World => ixW0 g7 2048 cap7 j hlt u
          have kd : wr.cell? ⟨g7, j, none⟩ = some (.int .u64 ((imgM n0 g F n2 d).mem (F + j) : Nat)) := by
            rw [HP.out.2.1.cell j (by have := HT7.out.2.1; omega)]
            unfold incF
            rw [if_neg (by omega), HT7.out.2.2 j hlt]
          have fd := IsTab.fz HP.out.2.1 j
          have HJ : Hid (j < 2048 ∧ wrap64 ((j : Int) + 1) = ((j + 1 : Nat) : Int)) := Lib.hid ⟨hlt, wrap_up j (by omega)⟩
          have HN : Hid (IsTab (wr.setCell ⟨g7, j, none⟩ (.int .u64 (IntKind.u64.wrap (((imgM n0 g F n2 d).mem (F + j) : Nat) + 1)))) g7 36 cap7 (incF (imgM n0 g F n2 d) F (j + 1) f7) ∧ Kept (fun k => k = g7) y7 (wr.setCell ⟨g7, j, none⟩ (.int .u64 (IntKind.u64.wrap (((imgM n0 g F n2 d).mem (F + j) : Nat) + 1))))) := Lib.hid ⟨(HP.out.2.1.set j _).cong fun i hi => by
              unfold updv incF
              by_cases e : i = j
              · subst e; rw [if_pos rfl, if_pos (by omega)]
              · rw [if_neg e]
                by_cases e2 : i < j
                · rw [if_pos e2, if_pos (by omega)]
                · rw [if_neg e2, if_neg (by omega)], HP.out.2.2.setCell (p := ⟨g7, j, none⟩) (.inl rfl) _⟩
          clear hlt
          generalize (imgM n0 g F n2 d).mem (F + j) = X at *
          have hw1 := HJ.out.2
          go_wp2_with (fail)
          go_roundw
          case rel => exact ⟨j + 1, by go_num, Lib.hid ⟨HJ.out.1, HN.out⟩⟩
          case measure => exact meas_loop HJ.out.1 HJ.out.2
        · obtain rfl : j = 2048 := by have := HP.out.1; omega
          have t1 : decide (((2048 : Nat) : Int) < 2048) = false := by decide
          have t1' : decide ((2048 : Int) < 2048) = false := by decide
          clear hlt
          have HB8 := Lib.hid (HB7.out.kept HP.out.2.2 HG7.out.1)
          have HM8 := Lib.hid (IsMac.kept HM7.out HP.out.2.2 HG7.out.2.1)
          have HK8 : Hid (Kept (fun _ => False) w wr) := Lib.hid (HK7.out.trans HP.out.2.2 fun k hk e => by have := HG7.out.2.2; omega)
          have HD8 : Hid (wr.cell? ⟨g7, 0, none⟩ = some (.int .u64 (IntKind.u64.wrap (((imgM n0 g F n2 d).mem F : Nat) + 1)))) := Lib.hid (by
            rw [HP.out.2.1.cell 0 (by have := HT7.out.2.1; omega)]
            unfold incF
            rw [if_pos (by omega), Nat.add_zero])
          have HLT : Hid (g7 < wr.heap.size) := Lib.hid HP.out.2.1.lt
          have HL8 := Lib.hid HB8.out.load
          have HC := Lib.hid (data_ok wr a1 n0 c1 q F (imgM n0 g F n2 d) HF.out.1 HM8.out)
          clear HP HB7 HM7 HK7 HT7
          go_upto_region 34 with (first
            | ((with_reducible refine wpList_loadE (P := Tryz.prog) (w := wr) (ty := 24) (x := .tmp 7) (p := .pointer (some ⟨qi, 0, none⟩)) (v := .agg #[.slice a1 n0 c1, .int .i64 F]) ?_ ?_ ?_ HL8.out ?_); (· exact rfl); (· exact rfl); (· exact rfl))
            | (go_at_call 5; (with_reducible refine HC.out.mono ?_); rintro e y9 ⟨g9, cap9, f9, he, ht, hc9, hf9, hg9, hk⟩; obtain rfl : e = _ := he; have HK9 := Lib.hid (HK8.out.trans hk fun _ _ e => e); have H99 : Hid (y9.cell? ⟨g9, 0, none⟩ = some (.int .u64 ((imgM n0 g F n2 d).mem F : Nat)) ∧ y9.cell? ⟨g7, 0, none⟩ = some (.int .u64 (IntKind.u64.wrap (((imgM n0 g F n2 d).mem F : Nat) + 1)))) := Lib.hid ⟨by rw [ht.cell 0 (by omega), hf9 0 (by decide), Nat.add_zero], hk.cell id HD8.out⟩; clear ht hc9 hf9 hg9 hk HC))
          clear HL8 HB8 HM8 HD8 t1 t1'
          have ka := H99.out.1
          have kb := H99.out.2
          generalize (imgM n0 g F n2 d).mem F = X at *
          go_quiet (fail)
          go_wp2_with (fail)
          exact bodyPost_ret (v := .bool true) (by simp [results, Tryz.results3, go_sem]) rfl ⟨rfl, HK9.out.drewN _⟩
theorem row_sized8 {H : Type} {enc : TypeId × Value → H} {P : Program} {w : World} {base : Nat} {held : Bool} {t e : TypeId} {k : IntKind} {a : Option Addr} {len cap : Nat} {d : DataW H} {p : List MemPlace} {ts : List TypeId} {ds : List (DataW H)} {j : Nat}
    (ht : P.underlying t = some (.slice e)) (he : P.underlying e = some (.int k)) (hC : P.cellsOf e = 1) (hb : P.bytesOf e = 8) (h : DataW.Trod enc P w base (fun _ => true) held t (.slice a len cap) d p)
    (hsz : (DataW.weightsEach P ts ds).all (· ≤ reachBytes) = true) (htj : ts[j]? = some t) (hdj : ds[j]? = some d) : cap * 8 ≤ 140737488351232 := by
  obtain ⟨fuel, hf⟩ := h
  rcases open_ints ht he hC hf with ⟨hcs, _⟩ | ⟨x, l, c, zs, hcs, _, hl, hm, hz, hx, _, _⟩
  · simp [Value.cells] at hcs
    omega
  · simp [Value.cells] at hcs
    obtain ⟨rfl, rfl, rfl⟩ := hcs
    injection hx with hd _
    have := sized_slice hsz htj (by rw [hdj, hd]) ht
    rw [hb] at this
    have hr : reachBytes = 140737488351232 := by decide
    simp [lits] at this hz
    omega
theorem none_of {w : World} {a : Option Addr} {n c : Nat} {zs : List Int} (h : IsRow .u64 w a n c zs) : a = none → n = 0 ∧ c = 0 := by
  intro e
  rcases h with ⟨_, h1, h2, _⟩ | ⟨x, h1, _⟩
  · exact ⟨h1, h2⟩
  · rw [e] at h1; cases h1
theorem len_cap {w : World} {a : Option Addr} {n c : Nat} {zs : List Int} (h : IsRow .u64 w a n c zs) : n ≤ c ∧ n ≤ maxLen := by
  rcases h with ⟨_, h1, h2, _⟩ | ⟨x, _, h1, h2, _⟩
  · subst h1; exact ⟨Nat.zero_le _, Nat.zero_le _⟩
  · exact ⟨h1, Nat.le_trans h1 h2⟩
theorem lowerMachines_walk (a0 : Option Addr) (len0 cap0 : Nat) (z0 : List Int) (k : Int) (a2 : Option Addr) (len2 cap2 : Nat) (z2 : List Int) {w : World} (h0 : IsRow .u64 w a0 len0 cap0 z0) (s0 : cap0 * 8 ≤ 140737488351232) (hk : (Lit.int .i64 k).wf = true) (h2 : IsRow .u64 w a2 len2 cap2 z2) (hT : Laid.KTab w) :
    Calls Tryz.prog 3 #[.slice a0 len0 cap0, .int .i64 k, .slice a2 len2 cap2] w fun e w' => e = .returned (.bool true) ∧ Below w.heap.size w w' := by
  obtain ⟨g, _, hg, _⟩ := us_of_row h0
  obtain ⟨d, _, hd, _⟩ := us_of_row h2
  have hc := len_cap h0
  have hmono : ∀ {e : Ending} {w' : World}, (e = .returned (.bool true) ∧ Kept (fun _ => False) w w') → e = .returned (.bool true) ∧ Below w.heap.size w w' := fun h => ⟨h.1, h.2.below (Nat.le_refl _) fun _ _ h => h.elim⟩
  by_cases hb : okB k = true
  · have hb2 : 0 ≤ k ∧ k ≤ 6144 := by simpa [okB] using hb
    obtain ⟨F, rfl⟩ := Int.eq_ofNat_of_zero_le hb2.1
    have hF : F ≤ 6144 := by omega
    by_cases h1 : F < len0 ∨ 2048 < len2
    · exact (lm_full w a0 a2 len0 cap0 len2 cap2 g d hg hd (none_of h0) ⟨hc.2, by omega⟩ hT F hF h1).mono fun _ _ h => hmono h
    · exact (lm_ok w a0 a2 len0 cap0 len2 cap2 g d hg hd (none_of h0) ⟨hc.2, by omega⟩ hT F hF (by omega) (by omega)).mono fun _ _ h => hmono h
  · exact (lm_bad w a0 a2 len0 cap0 len2 cap2 g d hg hd (none_of h0) ⟨hc.2, by omega⟩ hT k (by simpa using hb)).mono fun _ _ h => hmono h
end Lo
end Go.Proofs.YtbenjgncbpafbaaGreatDoor
