/-
  TxCommits. Own work.
-/
import Derived.Test.YtkhdamjjbjmeaaaDoorVm
import Derived.Test.YtkhdamjjbjmeaaaDoorTxs
import Derived.Test.YtkhdamjjbjmeaaaDoorV6
import Derived.Test.YtkhdamjjbjmeaaaDoorWhy
namespace Go.Proofs.YtkhdamjjbjmeaaaDoor
open Go.ChangeShapes Go.WideShapes Go.Deep Go.RowKit
set_option linter.unusedVariables false
set_option linter.unusedSimpArgs false
namespace Rl
open Kc (tab IsTab)
open Mk (Hx pr dv Lv)
theorem eqlH' (x : Hx) (u : World) : (binOp .eql 24 (dv x) (dv x)).run Tryd.prog u = .ok (.bool true) u := by
  have := Kc.eql32 x x u
  rw [Kc.same32_refl] at this
  exact this
theorem load32r {y : World} {q : Nat} {x : Hx} (h : IsTab y q 23 32 fun i => Kc.bv (x i)) : (Instr.loadAt 23 (.pointer (some ⟨q, 0, none⟩))).run Tryd.prog y = .ok (dv x) y :=
  Mk.loadR (Mk.at5_of (n := 1) (f := fun _ => x) (m := 32) (h.cong fun i hi => by unfold Mk.hc; rw [show i % 32 = i from by omega]) (by omega)) (k := 0) (by omega) rfl
set_option maxHeartbeats 2000000 in
set_option maxRecDepth 100000 in
theorem wrong4_true' (y : World) (er : Value) (A K B : Int) (hW : Calls Tryd.prog 41 #[er] y fun e w' => e = .returned (.tuple #[.int .i64 K, .int .i64 B]) ∧ Below y.heap.size y w') (h : K = 0 ∨ B = A) :
    Calls Tryd.prog 16 #[er, .int .i64 A, .int .i64 K] y fun e w' => e = .returned (.bool true) ∧ Below y.heap.size y w' := by
  have HW := Lib.hid hW
  clear hW
  by_cases h0 : K = 0
  · subst h0
    clear h
    go_enter Tryd.func16, Tryd.ntmps16
    go_wp2_with (go_at_call 41; (with_reducible refine HW.out.mono ?_); rintro e y1 ⟨rfl, hb⟩; have H1 := Lib.hid hb; clear hb)
    go_ret
    exact ⟨rfl, H1.out⟩
  · obtain rfl : B = A := h.resolve_left h0
    have hk : (K == 0) = false := by simpa using h0
    clear h h0
    go_enter Tryd.func16, Tryd.ntmps16
    go_wp2_with (go_at_call 41; (with_reducible refine HW.out.mono ?_); rintro e y1 ⟨rfl, hb⟩; have H1 := Lib.hid hb; clear hb)
    go_ret
    exact ⟨rfl, H1.out⟩
/-- Why of nil, of a number. -/
theorem why_nil4' (y : World) : Calls Tryd.prog 41 #[.nilIface] y fun e w' => e = .returned (.tuple #[.int .i64 0, .int .i64 (-1)]) ∧ Below y.heap.size y w' := by
  refine (why_nil y).mono ?_
  rintro e w' ⟨h1, rfl⟩
  exact ⟨h1, Below.refl _ _⟩
set_option maxHeartbeats 2000000 in
set_option maxRecDepth 100000 in
theorem txCommits_gen (w : World) (a : Option Addr) (n c : Nat) (fs : List (Nat → Nat)) (H : Hx) (er : Value) (k : Int) (hT : IsT w a n c fs) (hs : c * 48 ≤ 140737488351232) (ht : Laid.KTab w)
    (hC : ∀ y a1 c1, IsT y a1 n c1 fs → Laid.KTab y → Calls Tryd.prog 7 #[.slice a1 n c1] y fun e w' => e = .returned (.tuple #[dv H, er]) ∧ Below y.heap.size y w')
    (hR : ∀ y, IsT y a n c fs → Calls Tryd.prog 24 #[.slice a n c] y fun e w' => e = .returned (.tuple #[dv H, .int .i64 k]) ∧ Below y.heap.size y w')
    (hW : ∀ y, Below w.heap.size w y → Calls Tryd.prog 16 #[er, .int .i64 (-1), .int .i64 k] y fun e w' => e = .returned (.bool true) ∧ Below y.heap.size y w') :
    Calls Tryd.prog 6 #[.slice a n c] w fun e w' => e = .returned (.bool true) ∧ Below w.heap.size w w' := by
  have HT := Lib.hid hT
  have HK := Lib.hid ht
  have HS := Lib.hid (show n * 48 ≤ 140737488351232 by have := hT.2.1; omega)
  have HC := Lib.hid hC
  have HR := Lib.hid hR
  have HW := Lib.hid hW
  have z2 := Kc.zeroHash
  have z3 := zeroR
  obtain ⟨zh, hzh⟩ : ∃ z, (tab 32 fun _ => Kc.bv 0#8) = z := ⟨_, rfl⟩
  rw [hzh] at z2 z3
  have HZ := Lib.hid hzh
  have HZ3 := Lib.hid z3
  clear hzh hT ht hs hC hR hW z3
  go_enter Tryd.func6, Tryd.ntmps6
  go_upto_region 2 with (first
    | (refine wpList_copyT (w0 := w) rfl (.tmp 8) (.tmp 9) rfl rfl a n c fs rfl HT.out HS.out ?_; rintro a1 c1 y1 hT1 hb1
       have HB1 := Lib.hid hb1
       have HCM := Lib.hid (HC.out y1 a1 c1 hT1 (Kc.ktab_below HK.out hb1))
       clear hT1 hb1)
    | (go_at_call 7; (with_reducible refine HCM.out.mono ?_); rintro e y2 ⟨rfl, hb⟩
       have HB2 := Lib.hid (bl HB1.out hb)
       clear hb HCM HB1)
    | (refine wpList_store_row rfl 24 (.tmp 3) (.tmp 12) rfl y2.heap.size (tab 32 fun i => Kc.bv (H i)) rfl rfl 24 zh (heap_alloc_last y2 _) (Kc.infH _) (by rw [← HZ.out, Kc.tab_size, Kc.tab_size]) (Kc.one_bv _ _) ?_))
  rw [World.setRow_alloc_new]
  try simp only [Act.put]
  have HT3 : Hid (Below w.heap.size w (y2.alloc (.cells (tab 32 fun i => Kc.bv (H i)) 24)) ∧ IsTab (y2.alloc (.cells (tab 32 fun i => Kc.bv (H i)) 24)) y2.heap.size 24 32 (fun i => Kc.bv (H i))) := Lib.hid ⟨bl HB2.out (ba _ _), IsTab.new y2 _ 32 _⟩
  clear HB2 z2
  generalize y2.alloc (.cells (tab 32 fun i => Kc.bv (H i)) 24) = y3 at *
  generalize y2.heap.size = q3 at *
  have HRC := Lib.hid (HR.out y3 (HT.out.keep (keep_below HT3.out.1)))
  have z3 := HZ3.out
  go_upto_region 3 with (first
    | (go_at_call 24; (with_reducible refine HRC.out.mono ?_); rintro e y4 ⟨rfl, hb⟩
       have HT4 := Lib.hid (And.intro (bl HT3.out.1 hb) (HT3.out.2.below hb))
       clear hb HRC HT3)
    | (refine wpList_store_row rfl 23 (.tmp 5) (.tmp 17) rfl y4.heap.size (tab 32 fun i => Kc.bv (H i)) rfl rfl 23 zh (heap_alloc_last y4 _) (Kc.inf26 _) (by rw [← HZ.out, Kc.tab_size, Kc.tab_size]) (Kc.one_bv _ _) ?_))
  rw [World.setRow_alloc_new]
  try simp only [Act.put]
  have HT5 : Hid (Below w.heap.size w (y4.alloc (.cells (tab 32 fun i => Kc.bv (H i)) 23)) ∧ IsTab (y4.alloc (.cells (tab 32 fun i => Kc.bv (H i)) 23)) q3 24 32 (fun i => Kc.bv (H i)) ∧ IsTab (y4.alloc (.cells (tab 32 fun i => Kc.bv (H i)) 23)) y4.heap.size 23 32 (fun i => Kc.bv (H i))) := Lib.hid ⟨bl HT4.out.1 (ba _ _), HT4.out.2.alloc _, IsTab.new y4 _ 32 _⟩
  clear HT4 z3
  generalize y4.alloc (.cells (tab 32 fun i => Kc.bv (H i)) 23) = y5 at *
  generalize y4.heap.size = q5 at *
  have e1 := eqlH' H
  have e2 := Mk.guardE
  go_wp2_with (first
    | (go_at_call 8; (with_reducible refine (fixed4_walk y5).mono ?_); rintro e y6 ⟨rfl, hb⟩
       have HB6 := Lib.hid (bl HT5.out.1 hb)
       have L3 := Lib.hid (Mk.load32h (HT5.out.2.1.below hb))
       have L5 := Lib.hid (load32r (HT5.out.2.2.below hb))
       have HWR := Lib.hid (HW.out y6 HB6.out)
       clear hb HT5)
    | ((with_reducible refine wpList_loadG (P := Tryd.prog) (w := y6) (ty := 24) (x := .tmp 3) (p := .pointer (some ⟨q3, 0, none⟩)) (v := dv H) ?_ ?_ ?_ L3.out ?_); rotate_left; (· exact rfl); (· exact rfl); rotate_left; (· go_simp))
    | ((with_reducible refine wpList_loadG (P := Tryd.prog) (w := y6) (ty := 23) (x := .tmp 5) (p := .pointer (some ⟨q5, 0, none⟩)) (v := dv H) ?_ ?_ ?_ L5.out ?_); rotate_left; (· exact rfl); (· exact rfl); rotate_left; (· go_simp))
    | (go_at_call 16; (with_reducible refine HWR.out.mono ?_); rintro e y7 ⟨rfl, hb⟩
       have HB7 := Lib.hid (bl HB6.out hb)
       clear hb))
  go_ret
  exact ⟨rfl, HB7.out⟩
theorem txCommits_walk {w : World} (a : Option Addr) (n c : Nat) (fs : List (Nat → Nat)) (hT : IsT w a n c fs) (hf : ∀ f ∈ fs, ∀ i, i < 6 → f i < 18446744073709551616) (hs : c * 48 ≤ 140737488351232)
    (hg : w.cell? ⟨0, 0, none⟩ = some (.iface 135 (.agg #[.pointer (some ⟨2, 26, none⟩)]))) (ht : Laid.KTab w) :
    Calls Tryd.prog 6 #[.slice a n c] w fun e w' => e = .returned (.bool true) ∧ Below w.heap.size w w' := by
  by_cases h8 : n ≤ 8
  · exact txCommits_gen w a n c fs (com fs) .nilIface 0 hT hs ht (fun y a1 c1 h1 h2 => txCommit_ok y a1 n c1 fs h1 hf h2 h8) (fun y h1 => rCommit_ok y a n c fs h1 h8) (fun y hb => wrong4_true' y _ (-1) 0 (-1) (why_nil4' y) (.inl rfl))
  · exact txCommits_gen w a n c fs hz (eN 5) 5 hT hs ht (fun y a1 c1 h1 h2 => txCommit_long y a1 n c1 (by omega)) (fun y h1 => rCommit_long y a n c (by omega)) (fun y hb => wrong4_true' y _ (-1) 5 (-1) (why_num 5 y (keep_below hb _ _ hg)) (.inr rfl))
end Rl
end Go.Proofs.YtkhdamjjbjmeaaaDoor
