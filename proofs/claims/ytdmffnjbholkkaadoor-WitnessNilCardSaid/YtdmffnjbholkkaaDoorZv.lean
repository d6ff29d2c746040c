/-
  mootlaw06.fixed. Written by genZv.py. Own work.
-/
import Derived.Test.YtdmffnjbholkkaaDoorZu
namespace Go.Proofs.YtdmffnjbholkkaaDoor
open Go.RowKit
set_option linter.unusedVariables false
set_option linter.unusedSimpArgs false
namespace Wt
open Kc Mk
theorem lowB_le {w : World} (ht : Laid.KTab w) : lowB ≤ w.heap.size := by
  have := inHeap (ht 0 (by decide))
  unfold lowB
  omega
theorem zz_at (k b x : Nat) (hb : b < 2) (hx : x < 32) : zz k (32 * b + x) = zero k x := by
  unfold zz jn
  by_cases h : b = 0
  · subst h
    rw [if_pos (by omega), Nat.mul_zero, Nat.zero_add]
  · rw [if_neg (by omega)]
    congr 1
    omega
theorem px_zero (hh : Nat → Hx) (j k : Nat) (hk : k < 16) (h : hh j = zero (k + 1)) : px (zs 16) hh j = zz k := by
  unfold px
  rw [h, look_zs k hk]
  rfl
theorem buildNine (w : World) : (Instr.build 39 #[(0, .int .u8 9)]).run Tryd.prog w = .ok (.agg (tab 32 fun i => bv (nine i))) w := by kernel_rfl
theorem buildH0 (w : World) : (Instr.build 39 #[]).run Tryd.prog w = .ok (.agg (tab 32 fun _ => bv 0#8)) w := by kernel_rfl
theorem read9 (T : Nat → Prop) (s kb fb : Nat) (w : World) (hs : IsSt w T s kb fb nw) (hT : ∀ j, T j → j < w.heap.size) :
    Calls Tryd.prog 24 #[.pointer (some ⟨s, 0, none⟩), .int .i64 2, dv nine, .int .i64 0] w fun e w' => ∃ q T' A, e = .returned (.tuple #[dv fun _ => 0#8, .iface 156 (.pointer (some ⟨q, 0, none⟩))]) ∧ IsSt w' T' s kb fb ⟨zs 16, A⟩ ∧ A.length ≤ 17 ∧ (∀ j, T' j → (T j ∨ w.heap.size ≤ j) ∧ j < w'.heap.size) ∧ Kept T w w' ∧ w'.cell? ⟨q, 0, none⟩ = some (.int .i64 (0 : Nat)) ∧ w'.cell? ⟨q, 1, none⟩ = some (.iface 62 (.int .i64 14)) ∧ ¬ T' q := by
  refine Calls.mono (read_walk T s kb fb (zs 16) [] 2 0 0 (fun _ => nine) w hs hT (by decide) (by decide) (by decide) (by decide) (fun j hj => by omega) (fun j hj => by omega) (.inr nine_has)) ?_
  rintro e w' ⟨x, E, he, T', h⟩
  obtain ⟨rfl, q, rfl, h1, h2, h3, _⟩ := h.miss (by decide)
  refine ⟨q, T', _, he, h.st, ?_, h.tt, h.kp, h1, h2, h3⟩
  exact Nat.le_trans (askN_len [] (fun _ => nine) 1) (by decide)
theorem read3 (T : Nat → Prop) (s kb fb : Nat) (A : List Hx) (w : World) (hs : IsSt w T s kb fb ⟨zs 16, A⟩) (hT : ∀ j, T j → j < w.heap.size) (hA : A.length ≤ 17) :
    Calls Tryd.prog 24 #[.pointer (some ⟨s, 0, none⟩), .int .i64 3, dv (zero 3), .int .i64 5] w fun e w' => e = .returned (.tuple #[dv fun _ => 0#8, .nilIface]) ∧ ∃ T' : Nat → Prop, (∀ j, T' j → (T j ∨ w.heap.size ≤ j) ∧ j < w'.heap.size) ∧ Kept T w w' := by
  refine Calls.mono (read_walk T s kb fb (zs 16) A 3 5 3 (fun j => zero (3 - j)) w hs hT (by omega) (by decide) (by decide) (by decide) (fun j hj x hx => ?_) (fun j hj => ?_) (.inl rfl)) ?_
  · rw [px_zero _ j (2 - j) (by omega) (by show zero (3 - j) = _; congr 1; omega), zz_at _ _ _ (Nat.mod_lt _ (by decide)) hx]
    show zero (3 - (j + 1)) x = _
    rw [show 3 - (j + 1) = 2 - j from by omega]
  · show has (zs 16) (zero (3 - j)) = true
    rw [show 3 - j = (2 - j) + 1 from by omega]
    exact has_zs _ (by omega)
  · rintro e w' ⟨x, E, he, T', h⟩
    obtain ⟨rfl, rfl⟩ := h.hit rfl
    exact ⟨he, T', h.tt, h.kp⟩
theorem nw_pres : nw.pres = zs 16 := by simp only [nw]
theorem len_nw (T : Nat → Prop) (s kb fb : Nat) (w : World) (hs : IsSt w T s kb fb nw) : Calls Tryd.prog 29 #[.pointer (some ⟨s, 0, none⟩)] w fun e w' => e = .returned (.int .i64 16) ∧ w = w' := by
  have h := len_walk T s kb fb nw w hs
  rw [nw_pres, zs_len] at h
  exact h
set_option maxHeartbeats 4000000 in
set_option maxRecDepth 100000 in
theorem fixed06_walk (w : World) (hg : Et w) (ht : Laid.KTab w) : Calls Tryd.prog 15 #[] w fun e w' => e = .returned (.bool true) ∧ Below w.heap.size w w' := by
  have HT := Lib.hid (And.intro hg ht)
  have HN := Lib.hid (New_walk w ht (lowB_le ht))
  clear hg ht
  have z2 := zeroHash
  generalize hz : (tab 32 fun _ => bv 0#8) = zh at *
  have HZH := Lib.hid hz
  clear hz
  go_enter Tryd.func15, Tryd.ntmps15
  go_upto_region 2 with (go_at_call 13; (with_reducible refine HN.out.mono ?_); rintro e y1 ⟨s, T, kb, fb, he, hst, hb, hlo, hlt, hkt⟩; obtain rfl : e = _ := he; have HS := Lib.hid (And.intro hst (And.intro hb (And.intro hlo hlt))); have HK := Lib.hid hkt; clear hst hb hlo hlt hkt HN)
  have HL := Lib.hid (len_nw T s kb fb y1 HS.out.1)
  have hr := read9 T s kb fb y1 HS.out.1 HS.out.2.2.2
  unfold dv at hr
  have HR := Lib.hid hr
  clear hr
  have HB9 := Lib.hid (buildNine y1)
  go_upto_region 4 with (go_at_call 29; (with_reducible refine HL.out.mono ?_); rintro e y ⟨he, hw⟩; obtain rfl : e = _ := he; subst hw)
  go_upto_region 5 with (first
    | ((with_reducible refine wpList_buildE (P := Tryd.prog) (w := y1) ?_ 39 #[(0, .const (.int .u8 9))] ?_ #[(0, .int .u8 9)] ?_ (.agg (tab 32 fun i => bv (nine i))) HB9.out ?_); (· exact rfl); (· exact rfl); (· simp [go_sem]))
    | (go_at_call 24; (with_reducible refine HR.out.mono ?_); rintro e y2 ⟨q, T2, A, he, hst, hA, htt, hkp, h0, h1, hq⟩; (try unfold dv at he); obtain rfl : e = _ := he; have HS2 := Lib.hid (And.intro hst (And.intro hA (And.intro htt hkp))); have HQ := Lib.hid (And.intro h0 (And.intro h1 hq)); clear hst hA htt hkp h0 h1 hq HR)
    | ((with_reducible refine wpList_store_row (P := Tryd.prog) (w := y2.alloc (.cells zh 39)) ?_ 39 (.tmp 2) (.tmp 22) ?_ y2.heap.size (tab 32 fun _ => bv 0#8) ?_ ?_ 39 zh (heap_alloc_last y2 _) (infH _) ?_ (one_bv _ _) ?_); (· exact rfl); (· exact rfl); (· exact rfl); (· exact rfl); (· rw [← HZH.out] <;> rw [tab_size, tab_size]); rw [World.setRow_alloc_new]; simp only [Act.put]))
  have HB2 : Hid (Below w.heap.size w y2) := Lib.hid (below_of HS.out.2.1 HS2.out.2.2.2 fun j _ hj => HS.out.2.2.1 j (.inl hj))
  have HB3 := Lib.hid (bl HB2.out (ba y2 (.cells (tab 32 fun _ => bv 0#8) 39)))
  have HQ3 : Hid (y2.heap.size ≤ (y2.alloc (.cells (tab 32 fun _ => bv 0#8) 39)).heap.size ∧ IsSt (y2.alloc (.cells (tab 32 fun _ => bv 0#8) 39)) T2 s kb fb ⟨zs 16, A⟩ ∧ (y2.alloc (.cells (tab 32 fun _ => bv 0#8) 39)).cell? ⟨q, 0, none⟩ = some (.int .i64 (0 : Nat)) ∧ (y2.alloc (.cells (tab 32 fun _ => bv 0#8) 39)).cell? ⟨q, 1, none⟩ = some (.iface 62 (.int .i64 14))) := Lib.hid ⟨by simp, HS2.out.1.below (ba _ _), keep1 (ba _ _) HQ.out.1, keep1 (ba _ _) HQ.out.2.1⟩
  generalize y2.alloc (.cells (tab 32 fun _ => bv 0#8) 39) = y3 at *
  have HW := Lib.hid (why_flt y3 q 0 14 (HT.out.1.next HB3.out) HQ3.out.2.2.1 HQ3.out.2.2.2)
  go_upto_region 6 with (go_at_call 49; (with_reducible refine HW.out.mono ?_); rintro e y4 ⟨he, hb⟩; obtain rfl : e = _ := he; have H4 := Lib.hid hb; clear hb HW)
  have HB4 := Lib.hid (bl HB3.out H4.out)
  have hz3 := zero_ok 3 (by decide) y4 (ktab_below HT.out.2 HB4.out)
  rw [show ((3 : Nat) : Int) = 3 from rfl] at hz3
  unfold dv at hz3
  have HZ3 := Lib.hid hz3
  clear hz3
  go_upto_region 7 with (first
    | (go_at_call 31; (with_reducible refine HZ3.out.mono ?_); rintro e y5 ⟨he, hb⟩; (try unfold dv at he); obtain rfl : e = _ := he; have H5 := Lib.hid hb; clear hb HZ3)
    | ((with_reducible refine wpList_store_row (P := Tryd.prog) (w := y5.alloc (.cells zh 39)) ?_ 39 (.tmp 6) (.tmp 31) ?_ y5.heap.size (tab 32 fun i => bv (zero 3 i)) ?_ ?_ 39 zh (heap_alloc_last y5 _) (infH _) ?_ (one_bv _ _) ?_); (· exact rfl); (· exact rfl); (· exact rfl); (· exact rfl); (· rw [← HZH.out] <;> rw [tab_size, tab_size]); rw [World.setRow_alloc_new]; simp only [Act.put]))
  have H6 : Hid (Below y3.heap.size y3 (y5.alloc (.cells (tab 32 fun i => bv (zero 3 i)) 39)) ∧ IsTab (y5.alloc (.cells (tab 32 fun i => bv (zero 3 i)) 39)) y5.heap.size 39 32 (fun i => bv (zero 3 i))) := Lib.hid ⟨bl (bl H4.out H5.out) (ba _ _), IsTab.new y5 _ 32 _⟩
  generalize y5.alloc (.cells (tab 32 fun i => bv (zero 3 i)) 39) = y6 at *
  generalize y5.heap.size = q6 at *
  have HB6 := Lib.hid (bl HB3.out H6.out.1)
  have hr := read3 T2 s kb fb A y6 (HQ3.out.2.1.below H6.out.1) (fun j hj => by have h1 := (HS2.out.2.2.1 j hj).2; have h2 := HQ3.out.1; have h3 := H6.out.1.size; omega) HS2.out.2.1
  unfold dv at hr
  have HR := Lib.hid hr
  have HL6 := Lib.hid (loadHb H6.out.2)
  clear hr
  go_upto_region 8 with (first
    | ((with_reducible refine wpList_loadE (P := Tryd.prog) (w := y6) (ty := 39) (x := .tmp 6) (p := .pointer (some ⟨q6, 0, none⟩)) (v := .agg (tab 32 fun i => bv (zero 3 i))) ?_ ?_ ?_ HL6.out ?_); (· exact rfl); (· exact rfl); (· exact rfl))
    | (go_at_call 24; (with_reducible refine HR.out.mono ?_); rintro e y7 ⟨he, T3, htt, hkp⟩; obtain rfl : e = _ := he; have HS7 := Lib.hid (And.intro htt hkp); clear htt hkp HR)
    | ((with_reducible refine wpList_store_row (P := Tryd.prog) (w := y7.alloc (.cells zh 39)) ?_ 39 (.tmp 8) (.tmp 37) ?_ y7.heap.size (tab 32 fun _ => bv 0#8) ?_ ?_ 39 zh (heap_alloc_last y7 _) (infH _) ?_ (one_bv _ _) ?_); (· exact rfl); (· exact rfl); (· exact rfl); (· exact rfl); (· rw [← HZH.out] <;> rw [tab_size, tab_size]); rw [World.setRow_alloc_new]; simp only [Act.put]))
  have HB7 : Hid (Below w.heap.size w y7) := Lib.hid (below_of HB6.out HS7.out.2 fun j _ hj => by
    rcases (HS2.out.2.2.1 j hj).1 with h | h
    · exact HS.out.2.2.1 j (.inl h)
    · exact Nat.le_trans HS.out.2.1.size h)
  have H8 : Hid (Below w.heap.size w (y7.alloc (.cells (tab 32 fun _ => bv 0#8) 39)) ∧ IsTab (y7.alloc (.cells (tab 32 fun _ => bv 0#8) 39)) y7.heap.size 39 32 (fun _ => bv 0#8) ∧ (y7.alloc (.cells (tab 32 fun _ => bv 0#8) 39)).cell? ⟨q, 1, none⟩ = some (.iface 62 (.int .i64 14))) := Lib.hid ⟨bl HB7.out (ba _ _), IsTab.new y7 _ 32 _, keep1 (ba _ _) (keptC HS7.out.2 HQ.out.2.2 (keep1 H6.out.1 HQ3.out.2.2.2))⟩
  generalize y7.alloc (.cells (tab 32 fun _ => bv 0#8) 39) = y8 at *
  generalize y7.heap.size = q8 at *
  have HI : Hid (Calls Tryd.prog 30 #[.iface 156 (.pointer (some ⟨q, 0, none⟩)), .iface 62 (.int .i64 14)] y8 fun e w' => e = .returned (.bool true) ∧ y8 = w') := Lib.hid (Err.is_fault q 14 14 y8 H8.out.2.2)
  have hl8 := loadHb (x := fun _ => 0#8) H8.out.2.1
  have he9 : (Op.equalIn 10000 39 (.agg zh) (.agg zh)).run Tryd.prog y8 = .ok true y8 := by
    rw [← HZH.out]
    have h := run_equal_tab (P := Tryd.prog) y8 9998 39 5 32 .u8 (by kernel_rfl) undU8 sizeU8 (fun _ => Bv 0#8) (fun _ => Bv 0#8)
    rw [show ((List.range 32).all fun i => Bv 0#8 == Bv 0#8) = true from by simp] at h
    exact h
  rw [HZH.out] at hl8
  have hge : ∀ (x y : Operand) (u : World), (eqGuard .eql 39 x y (.agg zh) (.agg zh)).run Tryd.prog u = .ok () u := fun x y u => by rw [← HZH.out]; exact guardE x y (fun _ => 0#8) (fun _ => 0#8) u
  have HL8 := Lib.hid hl8
  clear hl8
  go_wp2_with (first
    | ((with_reducible refine wpList_loadG (P := Tryd.prog) (w := y8) (ty := 39) (x := .tmp 8) (p := .pointer (some ⟨q8, 0, none⟩)) (v := .agg zh) ?_ ?_ ?_ HL8.out ?_); rotate_left; (· exact rfl); (· exact rfl); rotate_left; (· go_simp))
    | (go_at_call 30; (with_reducible refine HI.out.mono ?_); rintro e y9 ⟨he, hw⟩; obtain rfl : e = _ := he; subst hw))
  exact bodyPost_ret (v := .bool true) (by simp [results, Tryd.results15, go_sem]) rfl ⟨rfl, H8.out.1⟩
end Wt
end Go.Proofs.YtdmffnjbholkkaaDoor
