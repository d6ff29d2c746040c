/- Merged of Lwg Lwh Lwi. Own work. -/
import Derived.Test.YtbenjgncbpafbaaGreatDoorP15
namespace Go.Proofs.YtbenjgncbpafbaaGreatDoor
open Go.RowKit
set_option linter.unusedVariables false
set_option linter.unusedSimpArgs false
section
variable {P : Program}
theorem wp_copy_tab {w : World} {o : Oper} {a : Act} {K : Act → World → Prop} {Q : Exit → Act → World → Prop} (d s : Operand) (dT sT : TypeId)
    (ho : o.op = .call { callee := .builtin .copy, args := #[d, s], argTypes := #[dT, sT] }) (elem : TypeId) (hu : P.underlying dT = some (.slice elem)) (hsz : (P.info? elem).map (·.size) = some 1)
    (q off dLen dCap : Nat) (ad : Addr) (sLen sCap : Nat) (hd : a.eval d = .slice (some ⟨q, off, none⟩) dLen dCap) (hs : a.eval s = .slice (some ad) sLen sCap)
    (T n : Nat) (g : Nat → Value) (hg : Kc.IsTab w q T n g) (k : Nat) (hk : k = min sLen dLen) (f : Nat → Value) (hsrc : ∀ j, j < k → w.cell? (ad.add j) = some (f j)) (hfit : off + k ≤ n) (h1 : ∀ j, (f j).oneCell' = true)
    (h : K (a.put o.dst (.int .i64 k)) (w.setRow q (Kc.tab n (Kc.splv g off k f)))) : o.wp P a w K Q := by
  have hrun := run_copy_row (P := P) w dT sT o.type elem q off dLen dCap ad sLen sCap (Kc.tab n g) T ((List.range k).map f) hu hsz hg (by rw [hk]; simp) (fun j v hv => by
    obtain ⟨hj, rfl⟩ := List.getElem?_eq_some_iff.1 hv
    simp only [List.length_map, List.length_range] at hj
    simpa using hsrc j hj) (by simp [Kc.tab_size]; exact hfit) (fun v hv => by
    obtain ⟨j, _, rfl⟩ := List.mem_map.1 hv
    exact h1 j)
  rw [List.length_map, List.length_range, List.append_assoc, Kc.tab_splice n g off k f hfit] at hrun
  unfold Oper.wp
  simp [execOp, ho, resolve, invoke, builtin, hd, hs, hrun, Result.andThen]
  exact h
theorem wp_copy_zero {w : World} {o : Oper} {a : Act} {K : Act → World → Prop} {Q : Exit → Act → World → Prop} (d s : Operand) (dT sT : TypeId)
    (ho : o.op = .call { callee := .builtin .copy, args := #[d, s], argTypes := #[dT, sT] }) (elem : TypeId) (hu : P.underlying dT = some (.slice elem)) (hsz : (P.info? elem).map (·.size) = some 1)
    (dp sp : Option Addr) (dLen dCap sLen sCap : Nat) (hd : a.eval d = .slice dp dLen dCap) (hs : a.eval s = .slice sp sLen sCap) (hn : Nat.min sLen dLen = 0)
    (h : K (a.put o.dst (goInt 0)) w) : o.wp P a w K Q := by
  have hrun := run_copy_none (P := P) w dT sT o.type elem dp sp dLen dCap sLen sCap hu hsz hn
  unfold Oper.wp
  simp [execOp, ho, resolve, invoke, builtin, hd, hs, hrun, Result.andThen]
  exact h
end
namespace Lo
open Kc Vm Ir
def IsUs (w : World) (a : Option Addr) (n : Nat) (g : Nat → Nat) : Prop := n = 0 ∨ ∃ b o, a = some ⟨b, o, none⟩ ∧ ∀ j, j < n → w.cell? ⟨b, o + j, none⟩ = some (.int .u64 (g j))
theorem IsUs.below {w w' : World} {a : Option Addr} {n : Nat} {g : Nat → Nat} (h : IsUs w a n g) (hb : Below w.heap.size w w') : IsUs w' a n g := by
  rcases h with h | ⟨b, o, e, h⟩
  · exact .inl h
  · exact .inr ⟨b, o, e, fun j hj => keep1 hb (h j hj)⟩
theorem us_of_row {w : World} {a : Option Addr} {n c : Nat} {zs : List Int} (h : IsRow .u64 w a n c zs) : ∃ g : Nat → Nat, n ≤ maxLen ∧ IsUs w a n g ∧ ∀ i, g i < 18446744073709551616 := by
  rcases h with ⟨rfl, rfl, _, _⟩ | ⟨x, rfl, hl, hm, hz, hc, hw⟩
  · exact ⟨fun _ => 0, by unfold maxLen; omega, .inl rfl, fun _ => by show (0 : Nat) < _; decide⟩
  have hb : ∀ i, 0 ≤ zs.getD i 0 ∧ zs.getD i 0 ≤ 18446744073709551615 := fun i => by
    rw [List.getD_eq_getElem?_getD]
    cases h : zs[i]? with
    | none => exact ⟨by decide, by decide⟩
    | some z =>
      have h2 := hw z (List.mem_of_getElem? h)
      exact ⟨of_decide_eq_true (Bool.and_eq_true_iff.1 h2).1, of_decide_eq_true (Bool.and_eq_true_iff.1 h2).2⟩
  refine ⟨fun i => (zs.getD i 0).toNat, by omega, ?_, fun i => by have := hb i; show (zs.getD i 0).toNat < _; omega⟩
  rcases Nat.eq_zero_or_pos n with h0 | h0
  · exact .inl h0
  obtain ⟨b, o, spot⟩ := x
  have hspot : spot = none := by
    have h1 := hc 0 (by omega)
    simpa [Addr.add] using World.cell?_spot h1
  subst hspot
  refine .inr ⟨b, o, rfl, fun j hj => ?_⟩
  have h1 := hc j (by omega)
  rw [add_at] at h1
  rw [h1]
  have := (hb j).1
  show some (Value.int .u64 (zs.getD j 0)) = some (.int .u64 (((zs.getD j 0).toNat : Nat) : Int))
  rw [Int.toNat_of_nonneg this]
theorem IsUs.kept {w w' : World} {a : Option Addr} {n : Nat} {g : Nat → Nat} (h : IsUs w a n g) (hk : Kept (fun _ => False) w w') : IsUs w' a n g := by
  rcases h with h | ⟨b, o, e, h⟩
  · exact .inl h
  · exact .inr ⟨b, o, e, fun j hj => hk.cell id (h j hj)⟩
theorem mc_zero (g : Nat → Nat) (i : Nat) (hi : i < 8211) : mc m0 i = mc (loaded 0 g) i := by
  unfold mc loaded m0
  simp
set_option maxHeartbeats 1000000 in
set_option maxRecDepth 100000 in
theorem load_zero (w : World) (a0 : Option Addr) (c : Nat) (g : Nat → Nat) :
    Calls Tryz.prog 8 #[.slice a0 0 c] w fun e w' => e = .returned (.tuple #[.pointer (some ⟨w.heap.size, 0, none⟩), .nilIface]) ∧ IsMac w' w.heap.size (loaded 0 g) ∧ Below w.heap.size w w' := by
  have HBM := Lib.hid (buildM0 w)
  have HT : Hid (IsTab (w.alloc (.cells (tab 8211 (mc m0)) 40)) w.heap.size 40 8211 (mc m0)) := Lib.hid (IsTab.new w _ 8211 _)
  have HB : Hid (Below w.heap.size w (w.alloc (.cells (tab 8211 (mc m0)) 40))) := Lib.hid ((Below.refl _ _).alloc (Nat.le_refl _) _)
  generalize hz : (tab 8211 (mc m0)) = ck at *
  have HZ := Lib.hid hz
  clear hz
  go_enter Tryz.func8, Tryz.ntmps8
  go_upto_region 4 with ((with_reducible refine Wt.wpList_buildM (P := Tryz.prog) (w := w) ?_ 40 ?_ (.agg ck) HBM.out ?_); (· exact rfl); (· exact rfl))
  generalize w.alloc (.cells ck 40) = y at *
  have s1 := slM w.heap.size
  generalize hq : w.heap.size = q at *
  go_upto_region 5 with (refine wpList_copy_nothing rfl (.tmp 14) (.tmp 15) 22 22 rfl 36 undW sizeW (some ⟨q, 0, none⟩) a0 8192 8192 0 c rfl rfl rfl ?_)
  have H9 : IsMac y q (loaded 0 g) := IsTab.cong HT.out fun i hi => mc_zero g i hi
  have HB9 : Below w.heap.size w y := by rw [hq]; exact HB.out
  have H9 := Lib.hid (And.intro H9 HB9)
  have HQ := Lib.hid hq
  clear hq s1
  go_wp2_with (fail)
  exact bodyPost_ret (v := .tuple #[.pointer (some ⟨q, 0, none⟩), .nilIface]) (by simp [results, Tryz.results8, go_sem]) rfl ⟨by rw [HQ.out], by rw [HQ.out]; exact H9.out.1, H9.out.2⟩
theorem load_us (w : World) (a : Option Addr) (n c : Nat) (g : Nat → Nat) (h : IsUs w a n g) (hn : n ≤ 8192) :
    Calls Tryz.prog 8 #[.slice a n c] w fun e w' => e = .returned (.tuple #[.pointer (some ⟨w.heap.size, 0, none⟩), .nilIface]) ∧ IsMac w' w.heap.size (loaded n g) ∧ Below w.heap.size w w' := by
  rcases h with rfl | ⟨b, o, rfl, h⟩
  · exact load_zero w a c g
  · exact load_walk w b o n c g h hn
theorem loadIm {w : World} {b o : Nat} {l0 l1 : Value} (h0 : w.cell? ⟨b, o, none⟩ = some l0) (h1 : w.cell? ⟨b, o + 1, none⟩ = some l1) : (Instr.loadAt 24 (.pointer (some ⟨b, o, none⟩))).run Tryz.prog w = .ok (.agg #[l0, l1]) w := by
  refine run_loadAt_mid w b o _ [l0, l1] _ (fun i v hv => ?_) undIm rfl (by rw [infIm]; rfl)
  match i, hv with
  | 0, hv => cases hv; exact h0
  | 1, hv => cases hv; exact h1
  | i + 2, hv => simp at hv
/-- An image of its own. -/
structure B2 (w : World) (q : Nat) (l0 l1 : Value) : Prop where
  c0 : w.cell? ⟨q, 0, none⟩ = some l0
  c1 : w.cell? ⟨q, 1, none⟩ = some l1
theorem B2.new (w : World) (l0 l1 : Value) (T : Nat) : B2 (w.alloc (.cells #[l0, l1] T)) w.heap.size l0 l1 := ⟨xc 0 _ rfl, xc 1 _ rfl⟩
theorem B2.kept {w w' : World} {q : Nat} {l0 l1 : Value} {S : Nat → Prop} (h : B2 w q l0 l1) (hk : Kept S w w') (hn : ¬ S q) : B2 w' q l0 l1 := ⟨hk.cell hn h.c0, hk.cell hn h.c1⟩
theorem B2.load {w : World} {q : Nat} {l0 l1 : Value} (h : B2 w q l0 l1) : (Instr.loadAt 24 (.pointer (some ⟨q, 0, none⟩))).run Tryz.prog w = .ok (.agg #[l0, l1]) w := loadIm (o := 0) h.c0 h.c1
/-- May an image's memory begin there? -/
def okB (k : Int) : Bool := decide (0 ≤ k ∧ k ≤ 6144)
set_option maxHeartbeats 1000000 in
set_option maxRecDepth 100000 in
theorem rb_walk (w : World) (a : Option Addr) (n c : Nat) (k : Int) :
    Calls Tryz.prog 9 #[.agg #[.slice a n c, .int .i64 k]] w fun e w' => e = .returned (.bool (okB k)) ∧ Kept (fun _ => False) w w' := by
  have HB := Lib.hid (B2.new w (.slice a n c) (.int .i64 k) 24)
  have HK := Lib.hid (kept_alloc9 w (.cells #[.slice a n c, .int .i64 k] 24))
  obtain ⟨r, hr⟩ : ∃ r, okB k = r := ⟨_, rfl⟩
  have HR := Lib.hid hr
  rw [hr]
  clear hr
  go_enter Tryz.func9, Tryz.ntmps9
  go_upto_region 1 with (fail)
  generalize w.alloc (.cells #[.slice a n c, .int .i64 k] 24) = y at *
  generalize w.heap.size = p at *
  have k1 := HB.out.c1
  by_cases h0 : 0 ≤ k
  · by_cases h1 : k ≤ 6144
    · have t0 : decide (0 ≤ k) = true := by simpa using h0
      have t1 : decide (k ≤ 6144) = true := by simpa using h1
      have hr : r = true := by rw [← HR.out]; unfold okB; simp [h0, h1]
      subst hr
      clear h0 h1
      go_wp2_with (fail)
      exact bodyPost_ret (v := .bool true) (by simp [results, Tryz.results9, go_sem]) rfl ⟨rfl, HK.out⟩
    · have t0 : decide (0 ≤ k) = true := by simpa using h0
      have t1 : decide (k ≤ 6144) = false := by simp; omega
      have hr : r = false := by rw [← HR.out]; unfold okB; simp [h1]
      subst hr
      clear h0 h1
      go_wp2_with (fail)
      exact bodyPost_ret (v := .bool false) (by simp [results, Tryz.results9, go_sem]) rfl ⟨rfl, HK.out⟩
  · have t0 : decide (0 ≤ k) = false := by simp; omega
    have hr : r = false := by rw [← HR.out]; unfold okB; simp [h0]
    subst hr
    clear h0
    go_wp2_with (fail)
    exact bodyPost_ret (v := .bool false) (by simp [results, Tryz.results9, go_sem]) rfl ⟨rfl, HK.out⟩
/-- The machine of an image with data. -/
def imgM (n : Nat) (g : Nat → Nat) (b k : Nat) (d : Nat → Nat) : Mac := ⟨fun i => if b ≤ i ∧ i < b + k then d (i - b) else if i < n then g i else 0, fun _ => 0, 0, false, 0⟩
theorem mc_img (n : Nat) (g : Nat → Nat) (b k : Nat) (d : Nat → Nat) (hF : b + k ≤ 8192) (i : Nat) (hi : i < 8211) : splv (mc (loaded n g)) b k (fun j => .int .u64 (d j : Int)) i = mc (imgM n g b k d) i := by
  unfold splv mc imgM loaded
  by_cases h : b ≤ i ∧ i < b + k
  · rw [if_pos h, if_pos (by omega)]
    simp only
    rw [if_pos h]
  · rw [if_neg h]
    simp only
    split
    · first | rfl | rw [if_neg h]
    · rfl
theorem mc_img0 (n : Nat) (g : Nat → Nat) (b : Nat) (d : Nat → Nat) (i : Nat) (hi : i < 8211) : mc (loaded n g) i = mc (imgM n g b 0 d) i := by
  unfold mc imgM loaded
  have hb : ¬ (b ≤ i ∧ i < b + 0) := by omega
  by_cases h : i < 8192
  · simp only [h, if_true, hb, if_false]
  · simp only [h, if_false]
theorem arrMem : Tryz.prog.underlying 37 = some (.array (Tryz.prog.arrayLen 37) (Tryz.prog.elem 37)) := by kernel_rfl
theorem lenMem : Tryz.prog.arrayLen 37 = 8192 := by kernel_rfl
theorem elMem (w : World) : (sizeOf (Tryz.prog.elem 37)).run Tryz.prog w = .ok 1 w := by kernel_rfl
theorem slMI (q F : Nat) (hF : F < 8192) (w : World) : (Instr.sliceAt 37 (.pointer (some ⟨q, 0, none⟩)) (some (.int .i64 F)) none none).run Tryz.prog w = .ok (.slice (some ⟨q, F, none⟩) (8192 - F) (8192 - F)) w := by
  rw [run_sliceAt_array_l w _ ⟨q, 0, none⟩ arrMem .i64 F (by omega) (by rw [lenMem]; omega), elMem]
  simp [slicedAt, lenMem, add_at]
  try (intro h; omega)
theorem slMH (q F : Nat) (hF : F ≤ 6144) (w : World) : (Instr.sliceAt 37 (.pointer (some ⟨q, 0, none⟩)) (some (.int .i64 F)) (some (.int .i64 ((F : Int) + 2048))) none).run Tryz.prog w = .ok (.slice (some ⟨q, F, none⟩) 2048 (8192 - F)) w := by
  rw [run_sliceAt_array_lh w _ ⟨q, 0, none⟩ arrMem .i64 .i64 F ((F : Int) + 2048) (by omega) (by omega) (by rw [lenMem]; omega), elMem]
  simp [slicedAt, lenMem, add_at]
  try omega
set_option maxHeartbeats 1000000 in
set_option maxRecDepth 100000 in
theorem machine_bad (w : World) (a a2 : Option Addr) (n c n2 c2 : Nat) (k : Int) (h : okB k = false) :
    Calls Tryz.prog 4 #[.agg #[.slice a n c, .int .i64 k], .slice a2 n2 c2] w fun e w' => e = .returned (.tuple #[.pointer none, .iface 34 (.int .i64 2)]) ∧ Kept (fun _ => False) w w' := by
  have HB := Lib.hid (B2.new w (.slice a n c) (.int .i64 k) 24)
  have HK := Lib.hid (kept_alloc9 w (.cells #[.slice a n c, .int .i64 k] 24))
  have HC := Lib.hid (rb_walk (w.alloc (.cells #[.slice a n c, .int .i64 k] 24)) a n c k)
  rw [h] at HC
  go_enter Tryz.func4, Tryz.ntmps4
  go_upto_region 1 with (fail)
  generalize w.alloc (.cells #[.slice a n c, .int .i64 k] 24) = y at *
  generalize w.heap.size = p at *
  have HL := Lib.hid HB.out.load
  go_wp2_with (first
    | ((with_reducible refine wpList_loadE (P := Tryz.prog) (w := y) (ty := 24) (x := .tmp 2) (p := .pointer (some ⟨p, 0, none⟩)) (v := .agg #[.slice a n c, .int .i64 k]) ?_ ?_ ?_ HL.out ?_); (· exact rfl); (· exact rfl); (· exact rfl))
    | (go_at_call 9; (with_reducible refine HC.out.mono ?_); rintro e y1 ⟨he, hk⟩; obtain rfl : e = _ := he; have HK1 := Lib.hid (HK.out.trans hk fun _ _ e => e); have HB1 := Lib.hid (HB.out.kept hk id); clear hk HC))
  exact bodyPost_ret (v := .tuple #[.pointer none, .iface 34 (.int .i64 2)]) (by simp [results, Tryz.results4, go_sem]) rfl ⟨rfl, HK1.out⟩
set_option maxHeartbeats 1000000 in
set_option maxRecDepth 100000 in
theorem machine_full (w : World) (a a2 : Option Addr) (n c n2 c2 F : Nat) (hF : F ≤ 6144) (h : F < n ∨ 2048 < n2) :
    Calls Tryz.prog 4 #[.agg #[.slice a n c, .int .i64 F], .slice a2 n2 c2] w fun e w' => e = .returned (.tuple #[.pointer none, .iface 34 (.int .i64 5)]) ∧ Kept (fun _ => False) w w' := by
  have HB := Lib.hid (B2.new w (.slice a n c) (.int .i64 F) 24)
  have HK := Lib.hid (kept_alloc9 w (.cells #[.slice a n c, .int .i64 F] 24))
  have HC := Lib.hid (rb_walk (w.alloc (.cells #[.slice a n c, .int .i64 F] 24)) a n c F)
  rw [show okB (F : Int) = true from by unfold okB; simp; omega] at HC
  go_enter Tryz.func4, Tryz.ntmps4
  go_upto_region 1 with (fail)
  generalize w.alloc (.cells #[.slice a n c, .int .i64 F] 24) = y at *
  generalize w.heap.size = p at *
  have HL := Lib.hid HB.out.load
  go_upto_region 3 with (first
    | ((with_reducible refine wpList_loadE (P := Tryz.prog) (w := y) (ty := 24) (x := .tmp 2) (p := .pointer (some ⟨p, 0, none⟩)) (v := .agg #[.slice a n c, .int .i64 F]) ?_ ?_ ?_ HL.out ?_); (· exact rfl); (· exact rfl); (· exact rfl))
    | (go_at_call 9; (with_reducible refine HC.out.mono ?_); rintro e y1 ⟨he, hk⟩; obtain rfl : e = _ := he; have HK1 := Lib.hid (HK.out.trans hk fun _ _ e => e); have HB1 := Lib.hid (HB.out.kept hk id); clear hk HC))
  have k0 := HB1.out.c0
  have k1 := HB1.out.c1
  by_cases h1 : F < n
  · have t1 : decide (F < n) = true := by simp; omega
    clear h h1
    go_wp2_with (fail)
    exact bodyPost_ret (v := .tuple #[.pointer none, .iface 34 (.int .i64 5)]) (by simp [results, Tryz.results4, go_sem]) rfl ⟨rfl, HK1.out⟩
  · have t1 : decide (F < n) = false := by simp; omega
    have t2 : decide (2048 < (n2 : Int)) = true := by simp; omega
    clear h h1
    go_wp2_with (fail)
    exact bodyPost_ret (v := .tuple #[.pointer none, .iface 34 (.int .i64 5)]) (by simp [results, Tryz.results4, go_sem]) rfl ⟨rfl, HK1.out⟩
set_option maxHeartbeats 4000000 in
set_option maxRecDepth 100000 in
theorem machine_ok (w : World) (a a2 : Option Addr) (n c n2 c2 F : Nat) (g d : Nat → Nat) (hF : F ≤ 6144) (hn : n ≤ F) (hn2 : n2 ≤ 2048) (hg : IsUs w a n g) (hd : IsUs w a2 n2 d) :
    Calls Tryz.prog 4 #[.agg #[.slice a n c, .int .i64 F], .slice a2 n2 c2] w fun e w' => ∃ q, e = .returned (.tuple #[.pointer (some ⟨q, 0, none⟩), .nilIface]) ∧ IsMac w' q (imgM n g F n2 d) ∧ w.heap.size ≤ q ∧ Kept (fun _ => False) w w' := by
  have HB := Lib.hid (B2.new w (.slice a n c) (.int .i64 F) 24)
  have HK := Lib.hid (kept_alloc9 w (.cells #[.slice a n c, .int .i64 F] 24))
  have HC := Lib.hid (rb_walk (w.alloc (.cells #[.slice a n c, .int .i64 F] 24)) a n c F)
  rw [show okB (F : Int) = true from by unfold okB; simp; omega] at HC
  have t1 : decide (F < n) = false := by simp; omega
  have t2 : decide (2048 < (n2 : Int)) = false := by simp; omega
  have HN := Lib.hid (And.intro hF (And.intro hn hn2))
  have HG := Lib.hid hg
  have HD := Lib.hid hd
  have HW := Lib.hid (show ∃ p, p = w.heap.size from ⟨_, rfl⟩)
  clear hg hd hF hn hn2
  go_enter Tryz.func4, Tryz.ntmps4
  go_upto_region 1 with (fail)
  generalize w.alloc (.cells #[.slice a n c, .int .i64 F] 24) = y at *
  generalize hp : w.heap.size = p at *
  have HP := Lib.hid hp
  clear hp
  have HL := Lib.hid HB.out.load
  go_upto_region 3 with (first
    | ((with_reducible refine wpList_loadE (P := Tryz.prog) (w := y) (ty := 24) (x := .tmp 2) (p := .pointer (some ⟨p, 0, none⟩)) (v := .agg #[.slice a n c, .int .i64 F]) ?_ ?_ ?_ HL.out ?_); (· exact rfl); (· exact rfl); (· exact rfl))
    | (go_at_call 9; (with_reducible refine HC.out.mono ?_); rintro e y1 ⟨he, hk⟩; obtain rfl : e = _ := he; have HK1 := Lib.hid (HK.out.trans hk fun _ _ e => e); have HB1 := Lib.hid (HB.out.kept hk id); clear hk HC))
  have k0 := HB1.out.c0
  have k1 := HB1.out.c1
  have HLD := Lib.hid (load_us y1 a n c g (HG.out.kept HK1.out) (by have := HN.out; omega))
  go_upto_region 8 with (go_at_call 8; (with_reducible refine HLD.out.mono ?_); rintro e y2 ⟨he, hm, hb⟩; obtain rfl : e = _ := he; have HM2 := Lib.hid hm; have HK2 := Lib.hid (HK1.out.trans (Kept.ofBelow (S := fun _ => False) hb) fun _ _ e => e); have HB2 := Lib.hid (HB1.out.kept (Kept.ofBelow (S := fun _ => False) hb) id); have HS := Lib.hid hb.size; clear hm hb HLD)
  clear k0 k1 t1 t2 HB HL
  have HSZ := Lib.hid (show w.heap.size ≤ y1.heap.size from HK1.out.size)
  have HS2 := Lib.hid (show p < y1.heap.size from inHeap HB1.out.c0)
  generalize y1.heap.size = q at *
  have HM3 := Lib.hid (HM2.out.drew)
  have HK3 := Lib.hid (HK2.out.trans (kept_d y2) fun _ _ e => e)
  have HD3 := Lib.hid (HD.out.kept HK3.out)
  have KB : Hid (y2.drew.cell? ⟨p, 1, none⟩ = some (.int .i64 F)) := Lib.hid (HB2.out.kept (kept_d y2) id).c1
  clear HM2 HK2 HB2 HK1 HB1
  have HPQ : Hid (¬ p = q) := Lib.hid (by have := HS2.out; omega)
  refine wp_region_og (fun y : World => Kept (fun k => k = q) y2.drew y) (.take 0 (.take 1 (.take 2 (.take 3 (.take 4 (.take 5 (.take 6 (.one 7 .done)))))))) (by kernel_rfl) (by kernel_rfl) (Kept.refl _ _) ?_
  generalize y2.drew = y3 at *
  refine og_tk (some 33) (.pointer (some ⟨q, 0, none⟩)) rfl rfl (by go_simp) (fun _ _ => by simp [execOp, go_sem]) ?_
  simp only [Act.put, pS]
  refine og_tk (some 34) (.pointer (some ⟨q, 0, none⟩)) rfl rfl (by go_simp) (fun _ _ => by simp [execOp, go_sem]) ?_
  simp only [Act.put, pS]
  refine og_tk (some 35) (.pointer (some ⟨q, 0, none⟩)) rfl rfl (by go_simp) (fun _ _ => by simp [execOp, go_sem]) ?_
  simp only [Act.put, pS]
  refine og_tk (some 36) (.pointer (some ⟨p, 1, none⟩)) rfl rfl (by go_simp) (fun _ _ => by simp [execOp, go_sem]) ?_
  simp only [Act.put, pS]
  refine og_ld (some 37) 3 (.tmp 36) (.pointer (some ⟨p, 1, none⟩)) (.int .i64 F) rfl rfl (by go_simp) rfl rfl (fun y hy => by have h := hy.cell HPQ.out KB.out; simp [Instr.loadAt, go_sem, h, Tryz.underlying3]) ?_
  simp only [Act.put, pS]
  refine og_tk (some 38) (.slice (some ⟨q, F, none⟩) (8192 - F) (8192 - F)) rfl rfl (by go_simp) (fun y hy => by have := slMI q F (by have := HN.out; omega) y; simp [execOp, go_sem, this, Result.andThen]) ?_
  simp only [Act.put, pS]
  refine og_tk (some 39) (.slice a2 n2 c2) rfl rfl (by go_simp) (fun _ _ => by simp [execOp, go_sem]) ?_
  simp only [Act.put, pS]
  rcases HD3.out with h0 | ⟨bb, ob, e2, hsrc⟩
  · refine og_f rfl (by go_simp) fun K hK => ?_
    refine wp_copy_zero (.tmp 38) (.tmp 39) 22 22 rfl 36 undW sizeW (some ⟨q, F, none⟩) a2 (8192 - F) (8192 - F) n2 c2 rfl rfl (by rw [h0]; exact Nat.zero_min _) ?_
    refine hK _ _ (Kept.refl _ _) ?_
    clear hK K
    simp only [Act.put, pS]
    refine og_done (NoPanic.normal ?_)
    have H9 : Hid (IsMac y3 q (imgM n g F n2 d)) := Lib.hid (IsTab.cong HM3.out fun i hi => by rw [h0]; exact mc_img0 n g F d i hi)
    clear HM3 KB HD3 h0
    go_wp2_with (fail)
    exact bodyPost_ret (v := .tuple #[.pointer (some ⟨q, 0, none⟩), .nilIface]) (by simp [results, Tryz.results4, go_sem]) rfl ⟨q, rfl, H9.out, by first | exact HSZ.out | (rw [← HP.out]; exact HSZ.out), HK3.out⟩
  · refine og_f rfl (by go_simp) fun K hK => ?_
    subst e2
    refine wp_copy_tab (.tmp 38) (.tmp 39) 22 22 rfl 36 undW sizeW q F (8192 - F) (8192 - F) ⟨bb, ob, none⟩ n2 c2 rfl rfl 40 8211 (mc (loaded n g)) HM3.out n2 (by have := HN.out; omega) (fun j => .int .u64 (d j : Int)) (fun j hj => by rw [add_at]; exact hsrc j hj) (by have := HN.out; omega) (fun _ => rfl) ?_
    refine hK _ _ ⟨by simp, by simp, by simp, by simp, fun k _ hk => setRow_other _ _ _ _ hk⟩ ?_
    clear hK K
    simp only [Act.put, pS]
    refine og_done (NoPanic.normal ?_)
    have H9 : Hid (IsMac (y3.setRow q (tab 8211 (splv (mc (loaded n g)) F n2 fun j => .int .u64 (d j : Int)))) q (imgM n g F n2 d)) := Lib.hid ((IsTab.row (f := mc (loaded n g)) HM3.out).cong fun i hi => mc_img n g F n2 d (by have := HN.out; omega) i hi)
    have HK9 : Hid (Kept (fun _ => False) w (y3.setRow q (tab 8211 (splv (mc (loaded n g)) F n2 fun j => .int .u64 (d j : Int))))) := Lib.hid (HK3.out.trans (T := fun k => k = q) ⟨by simp, by simp, by simp, by simp, fun k _ hk => setRow_other _ _ _ _ hk⟩ fun k hk e => by have := HSZ.out; omega)
    clear HM3 KB HD3 hsrc
    generalize y3.setRow q (tab 8211 (splv (mc (loaded n g)) F n2 fun j => .int .u64 (d j : Int))) = y4 at *
    go_wp2_with (fail)
    exact bodyPost_ret (v := .tuple #[.pointer (some ⟨q, 0, none⟩), .nilIface]) (by simp [results, Tryz.results4, go_sem]) rfl ⟨q, rfl, H9.out, by first | exact HSZ.out | (rw [← HP.out]; exact HSZ.out), HK9.out⟩
end Lo
end Go.Proofs.YtbenjgncbpafbaaGreatDoor
namespace Go.Proofs.YtbenjgncbpafbaaGreatDoor
open Go.RowKit
set_option linter.unusedVariables false
set_option linter.unusedSimpArgs false
namespace Lo
open Kc Vm Ir
set_option maxHeartbeats 1000000 in
set_option maxRecDepth 100000 in
theorem data_nil (w : World) (a : Option Addr) (n c : Nat) (k : Int) :
    Calls Tryz.prog 5 #[.agg #[.slice a n c, .int .i64 k], .pointer none] w fun e w' => e = .returned (.tuple #[.slice none 0 0, .iface 34 (.int .i64 1)]) ∧ Kept (fun _ => False) w w' := by
  have HK := Lib.hid (kept_alloc9 w (.cells #[.slice a n c, .int .i64 k] 24))
  go_enter Tryz.func5, Tryz.ntmps5
  go_wp2_with (fail)
  exact bodyPost_ret (v := .tuple #[.slice none 0 0, .iface 34 (.int .i64 1)]) (by simp [results, Tryz.results5, go_sem]) rfl ⟨rfl, HK.out⟩
set_option maxHeartbeats 1000000 in
set_option maxRecDepth 100000 in
theorem data_bad (w : World) (a : Option Addr) (n c q : Nat) (k : Int) (h : okB k = false) :
    Calls Tryz.prog 5 #[.agg #[.slice a n c, .int .i64 k], .pointer (some ⟨q, 0, none⟩)] w fun e w' => e = .returned (.tuple #[.slice none 0 0, .iface 34 (.int .i64 2)]) ∧ Kept (fun _ => False) w w' := by
  have HB := Lib.hid (B2.new w (.slice a n c) (.int .i64 k) 24)
  have HK := Lib.hid (kept_alloc9 w (.cells #[.slice a n c, .int .i64 k] 24))
  have HC := Lib.hid (rb_walk (w.alloc (.cells #[.slice a n c, .int .i64 k] 24)) a n c k)
  rw [h] at HC
  go_enter Tryz.func5, Tryz.ntmps5
  go_upto_region 1 with (fail)
  generalize w.alloc (.cells #[.slice a n c, .int .i64 k] 24) = y at *
  generalize w.heap.size = p at *
  have HL := Lib.hid HB.out.load
  go_wp2_with (first
    | ((with_reducible refine wpList_loadE (P := Tryz.prog) (w := y) (ty := 24) (x := .tmp 2) (p := .pointer (some ⟨p, 0, none⟩)) (v := .agg #[.slice a n c, .int .i64 k]) ?_ ?_ ?_ HL.out ?_); (· exact rfl); (· exact rfl); (· exact rfl))
    | (go_at_call 9; (with_reducible refine HC.out.mono ?_); rintro e y1 ⟨he, hk⟩; obtain rfl : e = _ := he; have HK1 := Lib.hid (HK.out.trans hk fun _ _ e => e); have HB1 := Lib.hid (HB.out.kept hk id); clear hk HC))
  exact bodyPost_ret (v := .tuple #[.slice none 0 0, .iface 34 (.int .i64 2)]) (by simp [results, Tryz.results5, go_sem]) rfl ⟨rfl, HK1.out⟩
/-- A row of words as a block. -/
theorem tab_of {w : World} {e n : Nat} {V : Value} {f : Nat → Value} (h : w.ownsRow 0 e 1 V n ((List.range n).map f)) (hn : 0 < n) : ∃ g cap F, V = .slice (some ⟨g, 0, none⟩) n cap ∧ IsTab w g e cap F ∧ n ≤ cap ∧ ∀ j, j < n → F j = f j := by
  rcases h.2 with ⟨_, h0⟩ | ⟨g, cap, cur, rfl, hb, hg, hc, hm, hs, ht⟩
  · omega
  · refine ⟨g, cap, fun i => cur.getD i undef, rfl, ?_, hc, fun j hj => ?_⟩
    · unfold IsTab
      rw [hg]
      congr 2
      apply Array.ext_getElem?
      intro i
      by_cases hi : i < cap
      · rw [tab_at _ hi]
        have : i < cur.size := by omega
        simp [this]
      · rw [tab_out _ (by omega), Array.getElem?_eq_none (by omega)]
    · have h1 : (cur.toList.take (n * 1))[j]? = ((List.range n).map f)[j]? := by rw [ht]
      rw [List.getElem?_take, if_pos (by omega)] at h1
      have h2 : cur[j]? = some (f j) := by simpa [hj] using h1
      simp [h2]
set_option maxHeartbeats 4000000 in
set_option maxRecDepth 100000 in
theorem data_ok (w : World) (a : Option Addr) (n c q F : Nat) (M : Mac) (hF : F ≤ 6144) (hM : IsMac w q M) :
    Calls Tryz.prog 5 #[.agg #[.slice a n c, .int .i64 F], .pointer (some ⟨q, 0, none⟩)] w fun e w' => ∃ g cap f, e = .returned (.tuple #[.slice (some ⟨g, 0, none⟩) 2048 cap, .nilIface]) ∧ IsTab w' g 36 cap f ∧ 2048 ≤ cap ∧ (∀ j, j < 2048 → f j = .int .u64 (M.mem (F + j))) ∧ w.heap.size ≤ g ∧ Kept (fun _ => False) w w' := by
  have HB := Lib.hid (B2.new w (.slice a n c) (.int .i64 F) 24)
  have HK := Lib.hid (kept_alloc9 w (.cells #[.slice a n c, .int .i64 F] 24))
  have HC := Lib.hid (rb_walk (w.alloc (.cells #[.slice a n c, .int .i64 F] 24)) a n c F)
  rw [show okB (F : Int) = true from by unfold okB; simp; omega] at HC
  have HN := Lib.hid hF
  have HM := Lib.hid hM
  clear hM hF
  go_enter Tryz.func5, Tryz.ntmps5
  go_upto_region 1 with (fail)
  generalize w.alloc (.cells #[.slice a n c, .int .i64 F] 24) = y at *
  generalize hp : w.heap.size = p at *
  have HP := Lib.hid hp
  clear hp
  have HL := Lib.hid HB.out.load
  go_upto_region 5 with (first
    | ((with_reducible refine wpList_loadE (P := Tryz.prog) (w := y) (ty := 24) (x := .tmp 2) (p := .pointer (some ⟨p, 0, none⟩)) (v := .agg #[.slice a n c, .int .i64 F]) ?_ ?_ ?_ HL.out ?_); (· exact rfl); (· exact rfl); (· exact rfl))
    | (go_at_call 9; (with_reducible refine HC.out.mono ?_); rintro e y1 ⟨he, hk⟩; obtain rfl : e = _ := he; have HK1 := Lib.hid (HK.out.trans hk fun _ _ e => e); have HB1 := Lib.hid (HB.out.kept hk id); clear hk HC))
  have HK2 := Lib.hid (HK1.out.trans (kept_d y1) fun _ _ e => e)
  have HM2 : Hid (IsMac y1.drew q M) := Lib.hid (IsMac.kept HM.out HK2.out id)
  have KB : Hid (y1.drew.cell? ⟨p, 1, none⟩ = some (.int .i64 F)) := Lib.hid (HB1.out.kept (kept_d y1) id).c1
  obtain ⟨i0, hi0⟩ := infoW
  have HI := Lib.hid hi0
  have HADD : Hid (IntKind.i64.wrap ((F : Int) + 2048) = (F : Int) + 2048) := Lib.hid (IntWalk.i64_in _ (by have := HN.out; omega))
  have HSL : Hid ((List.range 2048).map (fun j => Value.int .u64 (M.mem (F + j))) = (List.range 2048).map (fun j => Value.int .u64 (M.mem (F + j)))) := Lib.hid rfl
  clear hi0 HB HL HM HB1
  refine wp_region_og (fun y : World => Kept (fun _ => False) y1.drew y) (.take 0 (.take 1 (.take 2 (.take 3 (.take 4 (.take 5 (.take 6 (.take 7 (.take 8 (.one 9 (.take 10 (.take 11 .done)))))))))))) (by kernel_rfl) (by kernel_rfl) (Kept.refl _ _) ?_
  generalize y1.drew = y2 at *
  refine og_tk (some 13) (.pointer (some ⟨q, 0, none⟩)) rfl rfl (by go_simp) (fun _ _ => by simp [execOp, go_sem]) ?_
  simp only [Act.put, pS]
  refine og_tk (some 14) (.pointer (some ⟨q, 0, none⟩)) rfl rfl (by go_simp) (fun _ _ => by simp [execOp, go_sem]) ?_
  simp only [Act.put, pS]
  refine og_tk (some 15) (.pointer (some ⟨q, 0, none⟩)) rfl rfl (by go_simp) (fun _ _ => by simp [execOp, go_sem]) ?_
  simp only [Act.put, pS]
  refine og_tk (some 16) (.pointer (some ⟨p, 1, none⟩)) rfl rfl (by go_simp) (fun _ _ => by simp [execOp, go_sem]) ?_
  simp only [Act.put, pS]
  refine og_ld (some 17) 3 (.tmp 16) (.pointer (some ⟨p, 1, none⟩)) (.int .i64 F) rfl rfl (by go_simp) rfl rfl (fun y hy => by have h := hy.cell id KB.out; simp [Instr.loadAt, go_sem, h, Tryz.underlying3]) ?_
  simp only [Act.put, pS]
  refine og_tk (some 18) (.pointer (some ⟨p, 1, none⟩)) rfl rfl (by go_simp) (fun _ _ => by simp [execOp, go_sem]) ?_
  simp only [Act.put, pS]
  refine og_ld (some 19) 3 (.tmp 18) (.pointer (some ⟨p, 1, none⟩)) (.int .i64 F) rfl rfl (by go_simp) rfl rfl (fun y hy => by have h := hy.cell id KB.out; simp [Instr.loadAt, go_sem, h, Tryz.underlying3]) ?_
  simp only [Act.put, pS]
  refine og_tk (some 20) (.int .i64 ((F : Int) + 2048)) rfl rfl (by go_simp) (fun y hy => by have := HADD.out; simp [execOp, go_sem, this]) ?_
  simp only [Act.put, pS]
  refine og_tk (some 21) (.slice (some ⟨q, F, none⟩) 2048 (8192 - F)) rfl rfl (by go_simp) (fun y hy => by have := slMH q F HN.out y; simp [execOp, go_sem, this, Result.andThen]) ?_
  simp only [Act.put, pS]
  refine og_f rfl (by go_simp) fun K hK => ?_
  generalize hx : (List.range 2048).map (fun j => Value.int .u64 (M.mem (F + j))) = xs at *
  have HXL : Hid (xs.length = 2048) := Lib.hid (by rw [← hx]; simp)
  refine wp_append_any (.const (.slice none 0 0)) (.tmp 21) 22 rfl 0 36 i0 (.int .u64 0) 1 8 undWs HI.out (by simp [Value.cells]) (by decide) (.slice none 0 0) 0 [] rfl (row_none _ _ _ _) (some ⟨q, F, none⟩) 2048 (8192 - F) xs rfl (.inr ⟨_, rfl, by rw [HXL.out], fun j u hu => ?_⟩) (by intro u hu; rw [← hx] at hu; obtain ⟨j, _, rfl⟩ := List.mem_map.1 hu; rfl) (by decide) (by decide) (Nat.zero_le _) ?_
  · rw [← hx] at hu
    have hj : j < 2048 := by
      have := (List.getElem?_eq_some_iff.1 hu).1
      simpa using this
    have e : u = .int .u64 (M.mem (F + j)) := by simpa [hj] using hu.symm
    rw [e, add_at]
    exact HM2.out.mem (by have := HN.out; omega)
  intro V9 y9 hown hgr hat
  have hk : Kept (fun _ => False) y2 y9 := ⟨hgr.os, hgr.tape, hgr.output, hgr.size, fun k hk hn => hgr.block k hk (fun e => by simp [Value.ownBlock] at e)⟩
  have HK9 := Lib.hid hk
  have hr : y9.ownsRow 0 36 1 V9 2048 ((List.range 2048).map (fun j => Value.int .u64 (M.mem (F + j)))) := by
    rw [hx]; simpa using hown
  obtain ⟨g9, cap9, f9, rfl, ht, hc9, hf⟩ := tab_of hr (by decide)
  have H9 : Hid (IsTab y9 g9 36 cap9 f9 ∧ 2048 ≤ cap9 ∧ (∀ j, j < 2048 → f9 j = .int .u64 (M.mem (F + j))) ∧ y2.heap.size ≤ g9) := Lib.hid ⟨ht, hc9, hf, by
    rcases hat g9 rfl with e | e
    · simp [Value.ownBlock] at e
    · omega⟩
  clear hown hgr hat hk hr ht hc9 hf
  refine hK _ _ HK9.out ?_
  clear hK K
  simp only [Act.put, pS]
  refine og_tk (some 4) (.slice (some ⟨g9, 0, none⟩) 2048 cap9) rfl rfl (by go_simp) (fun _ _ => by simp [execOp, go_sem]) ?_
  simp only [Act.put, pS]
  refine og_tk (some 5) (.nilIface) rfl rfl (by go_simp) (fun _ _ => by simp [execOp, go_sem]) ?_
  simp only [Act.put, pS]
  refine og_done (NoPanic.normal ?_)
  clear HADD HSL HXL hx KB HI
  go_wp2_with (fail)
  exact bodyPost_ret (v := .tuple #[.slice (some ⟨g9, 0, none⟩) 2048 cap9, .nilIface]) (by simp [results, Tryz.results5, go_sem]) rfl ⟨g9, cap9, rfl, f9, H9.out.1, H9.out.2.1, H9.out.2.2.1, Nat.le_trans HK2.out.size H9.out.2.2.2, HK2.out.trans HK9.out fun _ _ e => e⟩
end Lo
end Go.Proofs.YtbenjgncbpafbaaGreatDoor
namespace Go.Proofs.YtbenjgncbpafbaaGreatDoor
open Go.RowKit
set_option linter.unusedVariables false
set_option linter.unusedSimpArgs false
namespace Lo
open Kc Vm Ir
theorem ktab_k {w w' : World} (ht : Laid.KTab w) (hk : Kept (fun _ => False) w w') : Laid.KTab w' := ktab_below ht (hk.below (Nat.le_refl _) fun _ _ h => h.elim)
def ws3 : List Nat := [1941051439396689920, 1878001048908464127, 281474976710656]
def wg (j : Nat) : Nat := ws3.getD j 0
def im0 : Mac := imgM 3 wg 6144 1 (fun _ => 7)
/-- The machine's beginning, and its steps. -/
def f3 : Nat → Mac
  | 0 => im0
  | 1 => { setR im0 15 6144 with pc := 1 }
  | 2 => { setR (setR im0 15 6144) 1 18446744073709551615 with pc := 2 }
  | _ => stopM { setR (setR im0 15 6144) 1 18446744073709551615 with pc := 3 } 18446744073709551615
theorem wg_lt (j : Nat) : wg j < 18446744073709551616 := by
  unfold wg ws3
  rcases j with _ | _ | _ | j <;> simp
theorem ok_im0 : OkM im0 := by
  refine ⟨fun i => ?_, fun i => by unfold im0 imgM; simp, by unfold im0 imgM; simp, by unfold im0 imgM; simp⟩
  unfold im0 imgM
  simp only
  split
  · decide
  · split
    · exact wg_lt i
    · decide
theorem ok_setR {M : Mac} (h : OkM M) (d v : Nat) (hv : v < 18446744073709551616) : OkM (setR M d v) := by
  refine ⟨h.mem, fun i => ?_, h.pc, h.exit⟩
  unfold setR
  simp only
  split
  · exact hv
  · exact h.reg i
theorem ok_pc {M : Mac} (h : OkM M) (p : Nat) (hp : p < 18446744073709551616) : OkM { M with pc := p } := ⟨h.mem, h.reg, hp, h.exit⟩
theorem f3_step (b s i : Nat) (W y : World) (hi : i < 3) (h : IsMac y b (f3 i) ∧ Kept (fun k => k = b) W y) :
    Calls Tryz.prog 19 #[.pointer (some ⟨b, 0, none⟩), .pointer (some ⟨s, 0, none⟩)] y fun e w' => e = .returned (.tuple #[]) ∧ (IsMac w' b (f3 (i + 1)) ∧ Kept (fun k => k = b) W w') := by
  have fin : ∀ {w' : World} {M' : Mac}, IsMac w' b M' → M' = f3 (i + 1) → Kept (fun k => k = b) y w' → IsMac w' b (f3 (i + 1)) ∧ Kept (fun k => k = b) W w' := fun h1 h2 h3 => ⟨h2 ▸ h1, h.2.trans h3 fun j hj e => e⟩
  have hi4 : i = 0 ∨ i = 1 ∨ i = 2 := by omega
  rcases hi4 with rfl | rfl | rfl
  · refine (step_li y b s (f3 0) (ws3.getD 0 0) ⟨h.1, ok_im0, rfl, by decide, rfl, by decide⟩ (by decide)).mono ?_
    rintro e w' ⟨he, h1, h2⟩
    exact ⟨he, fin h1 (by rfl) h2⟩
  · refine (step_li y b s (f3 1) (ws3.getD 1 0) ⟨h.1, ok_pc (ok_setR ok_im0 15 6144 (by decide)) 1 (by decide), rfl, by decide, rfl, by decide⟩ (by decide)).mono ?_
    rintro e w' ⟨he, h1, h2⟩
    exact ⟨he, fin h1 (by rfl) h2⟩
  · refine (step_halt y b s (f3 2) (ws3.getD 2 0) ⟨h.1, ok_pc (ok_setR (ok_setR ok_im0 15 6144 (by decide)) 1 _ (by decide)) 2 (by decide), rfl, by decide, rfl, by decide⟩ (by decide)).mono ?_
    rintro e w' ⟨he, h1, h2⟩
    exact ⟨he, fin h1 (by rfl) h2⟩
theorem f3_run (b s : Nat) (y : World) (hm : IsMac y b im0) :
    Calls Tryz.prog 11 #[.pointer (some ⟨b, 0, none⟩), .pointer (some ⟨s, 0, none⟩), .int .i64 1000] y fun e w' => e = .returned (.tuple #[.int .i64 3, .nilIface]) ∧ (IsMac w' b (f3 3) ∧ Kept (fun k => k = b) y w') :=
  run_walk b s 1000 3 f3 (fun i z => IsMac z b (f3 i) ∧ Kept (fun k => k = b) y z) (fun i z h => h.1) (fun i z hi h => f3_step b s i y z hi h) (by decide)
    (fun i hi => by
      have : i = 0 ∨ i = 1 ∨ i = 2 := by omega
      rcases this with rfl | rfl | rfl <;> rfl) (.inr rfl) (by decide) y ⟨hm, Kept.refl _ _⟩
set_option maxHeartbeats 4000000 in
set_option maxRecDepth 100000 in
theorem fixed13_walk (w : World) (ht : Laid.KTab w) : Calls Tryz.prog 6 #[] w fun e w' => e = .returned (.bool true) ∧ Kept (fun _ => False) w w' := by
  have HT := Lib.hid ht
  have HK1 := Lib.hid (kept_alloc9 w (.cells #[.int .i64 7, .int .i64 0, .int .i64 26, .int .u64 18446744073709551615, .slice none 0 0, .int .i64 0, .int .u64 0, .slice none 0 0, .slice none 0 0, .slice none 0 0] 50))
  have HS1 : Hid (SlS (w.alloc (.cells #[.int .i64 7, .int .i64 0, .int .i64 26, .int .u64 18446744073709551615, .slice none 0 0, .int .i64 0, .int .u64 0, .slice none 0 0, .slice none 0 0, .slice none 0 0] 50)) (fun _ => True) (.slice (some ⟨w.heap.size, 0, none⟩) 1 1) T7) := Lib.hid (sx1 trivial slEn slEn slS0 slS0 (by decide) (by decide))
  have HBS := Lib.hid (buildS1 (.int .i64 7) (.int .i64 0) (.int .i64 26) (.int .u64 18446744073709551615) (.slice none 0 0) (.int .i64 0) (.int .u64 0) (.slice none 0 0) (.slice none 0 0) (.slice none 0 0) w)
  generalize w.alloc (.cells #[.int .i64 7, .int .i64 0, .int .i64 26, .int .u64 18446744073709551615, .slice none 0 0, .int .i64 0, .int .u64 0, .slice none 0 0, .slice none 0 0, .slice none 0 0] 50) = y1 at *
  generalize hb1 : w.heap.size = b1 at *
  have HB1 := Lib.hid hb1
  clear ht hb1
  have HK2 := Lib.hid (HK1.out.trans (kept_alloc9 y1 (.cells #[.int .i64 0, .int .i64 0, .slice (some ⟨b1, 0, none⟩) 1 1] 52)) fun _ _ e => e)
  have HP2 : Hid (SlP (y1.alloc (.cells #[.int .i64 0, .int .i64 0, .slice (some ⟨b1, 0, none⟩) 1 1] 52)) (fun _ => True) (.slice (some ⟨y1.heap.size, 0, none⟩) 1 1) [⟨0, 0, T7⟩]) := Lib.hid (fx1 HS1.out)
  have HBF := Lib.hid (buildF1 (.int .i64 0) (.int .i64 0) (.slice (some ⟨b1, 0, none⟩) 1 1) y1)
  generalize y1.alloc (.cells #[.int .i64 0, .int .i64 0, .slice (some ⟨b1, 0, none⟩) 1 1] 52) = y2 at *
  generalize hb2 : y1.heap.size = b2 at *
  clear hb2
  have HC := Lib.hid (compile_walk y2 b2 0 1 HP2.out)
  go_enter Tryz.func6, Tryz.ntmps6
  go_upto_region 2 with (first
    | ((with_reducible refine wpList_build1 (P := Tryz.prog) ?_ 48 (.tmp 9) ?_ (.agg #[.int .i64 7, .int .i64 0, .int .i64 26, .int .u64 18446744073709551615, .slice none 0 0, .int .i64 0, .int .u64 0, .slice none 0 0, .slice none 0 0, .slice none 0 0]) (.slice (some ⟨b1, 0, none⟩) 1 1) ?_ y1 HBS.out ?_); (· exact rfl); (· exact rfl); (· exact rfl))
    | ((with_reducible refine wpList_build1 (P := Tryz.prog) ?_ 53 (.tmp 11) ?_ (.agg #[.int .i64 0, .int .i64 0, .slice (some ⟨b1, 0, none⟩) 1 1]) (.slice (some ⟨b2, 0, none⟩) 1 1) ?_ y2 HBF.out ?_); (· exact rfl); (· exact rfl); (· exact rfl))
    | (go_at_call 10; (with_reducible refine HC.out.mono ?_); rintro e y3 ⟨g3, c3, he, w0, w1, w2, hk⟩; obtain rfl : e = _ := he; have HW3 := Lib.hid (And.intro w0 (And.intro w1 w2)); have HK3 := Lib.hid (HK2.out.trans hk fun _ _ e => e); clear w0 w1 w2 hk HC HBF HBS)
    | ((with_reducible refine wpList_store_row (P := Tryz.prog) ?_ 24 (.tmp 1) (.tmp 14) ?_ _ #[.slice (some ⟨g3, 0, none⟩) 3 c3, .int .i64 6144] ?_ ?_ 24 #[.slice none 0 0, .int .i64 0] (heap_alloc_last y3 _) infIm2 rfl (by simp [Value.oneCell']) ?_); (· exact rfl); (· exact rfl); (· exact rfl); (· exact rfl); rw [World.setRow_alloc_new]; simp only [Act.put]))
  have hk4 := kept_alloc9 y3 (.cells #[.slice (some ⟨g3, 0, none⟩) 3 c3, .int .i64 6144] 24)
  have HB4 := Lib.hid (B2.new y3 (.slice (some ⟨g3, 0, none⟩) 3 c3) (.int .i64 6144) 24)
  have HK4 := Lib.hid (HK3.out.trans hk4 fun _ _ e => e)
  have HU4 : Hid (IsUs (y3.alloc (.cells #[.slice (some ⟨g3, 0, none⟩) 3 c3, .int .i64 6144] 24)) (some ⟨g3, 0, none⟩) 3 wg) := Lib.hid (.inr ⟨g3, 0, rfl, fun j hj => by
    match j, hj with
    | 0, _ => exact hk4.cell id HW3.out.1
    | 1, _ => exact hk4.cell id HW3.out.2.1
    | 2, _ => exact hk4.cell id HW3.out.2.2⟩)
  clear hk4 HW3 HK3 HP2 HS1 HK1 HK2
  generalize y3.alloc (.cells #[.slice (some ⟨g3, 0, none⟩) 3 c3, .int .i64 6144] 24) = y4 at *
  generalize y3.heap.size = qi at *
  have HL4 := Lib.hid HB4.out.load
  have hk5 := kept_alloc9 y4 (.cells #[.int .u64 7] 36)
  have HBW := Lib.hid (buildW 7 y4)
  have HK5 := Lib.hid (HK4.out.trans hk5 fun _ _ e => e)
  have HU5 := Lib.hid (HU4.out.kept hk5)
  have HB5 := Lib.hid (HB4.out.kept hk5 id)
  have HD5 : Hid (IsUs (y4.alloc (.cells #[.int .u64 7] 36)) (some ⟨y4.heap.size, 0, none⟩) 1 (fun _ => 7)) := Lib.hid (.inr ⟨y4.heap.size, 0, rfl, fun j hj => by
    match j, hj with
    | 0, _ => exact xc 0 _ rfl⟩)
  clear hk5 HU4 HB4 HK4
  generalize y4.alloc (.cells #[.int .u64 7] 36) = y5 at *
  generalize y4.heap.size = b5 at *
  have HC := Lib.hid (machine_ok y5 (some ⟨g3, 0, none⟩) (some ⟨b5, 0, none⟩) 3 c3 1 1 6144 wg (fun _ => 7) (by decide) (by decide) (by decide) HU5.out HD5.out)
  rw [show ((6144 : Nat) : Int) = 6144 from rfl] at HC
  go_upto_region 7 with (first
    | ((with_reducible refine wpList_loadE (P := Tryz.prog) (w := y4) (ty := 24) (x := .tmp 1) (p := .pointer (some ⟨qi, 0, none⟩)) (v := .agg #[.slice (some ⟨g3, 0, none⟩) 3 c3, .int .i64 6144]) ?_ ?_ ?_ HL4.out ?_); (· exact rfl); (· exact rfl); (· exact rfl))
    | ((with_reducible refine wpList_build1 (P := Tryz.prog) ?_ 22 (.const (.int .u64 7)) ?_ (.int .u64 7) (.slice (some ⟨b5, 0, none⟩) 1 1) ?_ y5 HBW.out ?_); (· exact rfl); (· exact rfl); (· exact rfl))
    | (go_at_call 4; (with_reducible refine HC.out.mono ?_); rintro e y6 ⟨q, he, hm, hq, hk⟩; obtain rfl : e = _ := he; have HM6 := Lib.hid hm; have HK6 := Lib.hid (HK5.out.trans hk fun _ _ e => e); have HB6 := Lib.hid (HB5.out.kept hk id); have HQ6 := Lib.hid (Nat.le_trans HK5.out.size hq); clear hm hq hk HC))
  clear HL4 HBW HK5 HU5 HB5 HD5
  have HT6 := Lib.hid (ktab_k HT.out HK6.out)
  have HC := Lib.hid (Wt.New_walk y6 HT6.out (by have := inHeap (HT6.out 0 (by decide)); unfold Wt.lowB; omega))
  have HR := Lib.hid (fun s y hm => f3_run q s y hm)
  go_upto_region 8 with (first
    | (go_at_call 12; (with_reducible refine HC.out.mono ?_); rintro e y7 ⟨s, T, kb, fb, he, _, hb, _⟩; obtain rfl : e = _ := he; have HK7 := Lib.hid (HK6.out.trans (Kept.ofBelow (S := fun _ => False) hb) fun _ _ e => e); have HM7 := Lib.hid (HM6.out.below hb); have HB7 := Lib.hid (HB6.out.kept (Kept.ofBelow (S := fun _ => False) hb) id); have HQI : Hid (¬ qi = q) := Lib.hid (fun e => by
        have h0 := HB6.out.c0
        subst e
        have := HM6.out.mem (p := 0) (by decide)
        rw [h0] at this; cases this); clear hb HC)
    | (go_at_call 11; (with_reducible refine (HR.out _ _ HM7.out).mono ?_); rintro e y8 ⟨he, hm, hk⟩; obtain rfl : e = _ := he; have HM8 := Lib.hid hm; have HK8 := Lib.hid (HK7.out.trans hk fun k hk e => by have := HQ6.out; omega); have HB8 := Lib.hid (HB7.out.kept hk HQI.out); clear hm hk))
  have HL8 := Lib.hid HB8.out.load
  have HC := Lib.hid (data_ok y8 (some ⟨g3, 0, none⟩) 3 c3 q 6144 (f3 3) (by decide) HM8.out)
  rw [show ((6144 : Nat) : Int) = 6144 from rfl] at HC
  clear HM6 HK6 HB6 HT6 HR HK7 HM7 HB7
  go_upto_region 9 with (first
    | ((with_reducible refine wpList_loadE (P := Tryz.prog) (w := y8) (ty := 24) (x := .tmp 1) (p := .pointer (some ⟨qi, 0, none⟩)) (v := .agg #[.slice (some ⟨g3, 0, none⟩) 3 c3, .int .i64 6144]) ?_ ?_ ?_ HL8.out ?_); (· exact rfl); (· exact rfl); (· exact rfl))
    | (go_at_call 5; (with_reducible refine HC.out.mono ?_); rintro e y9 ⟨g9, cap9, f9, he, ht, hc9, hf, hg9, hk⟩; obtain rfl : e = _ := he; have HK9 := Lib.hid (HK8.out.trans hk fun _ _ e => e); have HM9 := Lib.hid (IsMac.kept HM8.out hk id); have HD9 : Hid (y9.cell? ⟨g9, 0, none⟩ = some (.int .u64 7)) := Lib.hid (by rw [ht.cell 0 (by omega), hf 0 (by decide)]; rfl); clear ht hc9 hf hg9 hk HC))
  have k3 : y9.cell? ⟨q, 8209, none⟩ = some (.bool true) := HM9.out.halted
  have k4 : y9.cell? ⟨q, 8210, none⟩ = some (.int .u64 18446744073709551615) := HM9.out.exit
  have kd := HD9.out
  go_wp2_with (fail)
  exact bodyPost_ret (v := .bool true) (by simp [results, Tryz.results6, go_sem]) rfl ⟨rfl, HK9.out⟩
end Lo
end Go.Proofs.YtbenjgncbpafbaaGreatDoor
