/-
  merkle.Fold. Own work.
-/
import Derived.Test.YtjfpbponjhpdhaaDoorMc
namespace Go.Proofs.YtjfpbponjhpdhaaDoor
open Go.RowKit
set_option linter.unusedVariables false
set_option linter.unusedSimpArgs false
namespace Mk
open Kc
structure Fo (W : World) (q6 q8 n : Nat) (a : Option Addr) (p : Nat → Hx) (r : Hx) (y : World) : Prop where
  s8 : IsTab y q8 42 32 fun i => bv (r i)
  s6 : IsTab y q6 42 32 fun _ => bv 0#8
  hp : IsHs y a n p
  below : Below W.heap.size W y
  g6 : W.heap.size ≤ q6
  g8 : q6 < q8
  old : ∀ b o, a = some ⟨b, o, none⟩ → 0 < n → b < W.heap.size
theorem Fo.next {W y y' : World} {q6 q8 n : Nat} {a : Option Addr} {p : Nat → Hx} {r : Hx} (h : Fo W q6 q8 n a p r y) (hb : Below y.heap.size y y') : Fo W q6 q8 n a p r y' :=
  ⟨h.s8.below hb, h.s6.below hb, h.hp.below hb, bl h.below hb, h.g6, h.g8, h.old⟩
theorem IsHs.inHeap {w : World} {a : Option Addr} {n : Nat} {f : Nat → Hx} (h : IsHs w a n f) : ∀ b o, a = some ⟨b, o, none⟩ → 0 < n → b < w.heap.size := by
  intro b o ha hn
  obtain ⟨b', o', h1, h2⟩ := h.at hn
  rw [h1] at ha
  injection ha with ha
  injection ha with ha _
  subst ha
  exact Go.Proofs.YtjfpbponjhpdhaaDoor.inHeap (h2 0 0 hn (by decide))
theorem Fo.set {W y : World} {q6 q8 n : Nat} {a : Option Addr} {p : Nat → Hx} {r : Hx} (h : Fo W q6 q8 n a p r y) (x : Hx) : Fo W q6 q8 n a p x (y.setRow q8 (tab 32 fun j => bv (x j))) := by
  have h6 := h.g6
  have h8 := h.g8
  refine ⟨h.s8.row, h.s6.rowOther (by omega), ?_, below_setRow h.below (by omega) _, h.g6, h.g8, h.old⟩
  rcases h.hp with h1 | ⟨b, o, h1, h2⟩
  · exact .inl h1
  · rcases Nat.eq_zero_or_pos n with h0 | h0
    · exact .inl h0
    · refine .inr ⟨b, o, h1, fun k j hk hj => ?_⟩
      have hb := h.old b o h1 h0
      rw [cell_setRow_other _ _ _ _ (show b ≠ q8 by omega)]; exact h2 k j hk hj
set_option maxHeartbeats 2000000 in
set_option maxRecDepth 100000 in
theorem fold_ok (i : Nat) (x : Hx) (a : Option Addr) (n c : Nat) (p : Nat → Hx) (w : World) (hs : IsHs w a n p) (hnc : n ≤ c) (hn : n ≤ 16) (hi : i < 2 ^ n) (ht : Laid.KTab w) :
    Calls Tryd.prog 41 #[.int .i64 i, dv x, .slice a n c] w fun e w' => e = .returned (.tuple #[dv (fold i x p n), .nilIface]) ∧ Below w.heap.size w w' := by
  have HS := Lib.hid hs
  have HT := Lib.hid ht
  have h16 := two16 hn
  have hIi : (i : Int) < 2 ^ n := by
    have e : ((2 ^ n : Nat) : Int) = (2 : Int) ^ n := by rw [Int.natCast_pow]; rfl
    omega
  clear hs ht
  have z2 := zeroHash
  generalize hz : (tab 32 fun _ => bv 0#8) = zh at *
  have HZ := Lib.hid hz
  clear hz
  have hzl : zh.size = 32 := by rw [← HZ.out, tab_size]
  have HZL := Lib.hid hzl
  have hzi : (Tryd.prog.info? 42).map (·.size) = some zh.size := by rw [hzl]; exact infHh
  have HZI := Lib.hid hzi
  have hzo : zh.all (·.oneCell') = true := by rw [← HZ.out]; exact one_bv _ _
  have HZO := Lib.hid hzo
  clear hzi hzo hzl
  have hN : (n : Int) ≤ 16 := by omega
  have hIb : (i : Int) ≤ 65536 := by omega
  have hnc2 : (n : Int) ≤ 9223372036854775807 := by omega
  have HHI := Lib.hid (And.intro hi hIi)
  clear hi hIi
  unfold dv
  go_enter Tryd.func41, Tryd.ntmps41
  go_upto_region 4 with (first
    | (go_at_call 65; refine (place_yes (i : Int) n hn _ (by omega) HHI.out.2).mono ?_; rintro e _ ⟨rfl, rfl⟩)
    | ((with_reducible refine wpList_load_row (P := Tryd.prog) (w := (w.alloc (.cells (tab 32 fun i => bv (x i)) 42)).alloc (.cells zh 42)) ?_ 42 (.tmp 4) ?_ w.heap.size ?_ 42 (tab 32 fun i => bv (x i)) (0, 0) _ ?_ undH rfl (infH _) ?_); (· exact rfl); (· exact rfl); (· exact rfl); (· exact (IsTab.new w _ 32 _).alloc _))
    | ((with_reducible refine wpList_store_row (P := Tryd.prog) (w := ((w.alloc (.cells (tab 32 fun i => bv (x i)) 42)).alloc (.cells zh 42)).alloc (.cells zh 42)) ?_ 42 (.tmp 8) (.tmp 23) ?_ (w.heap.size + 1 + 1) (tab 32 fun i => bv (x i)) ?_ ?_ 42 zh ?_ (infH _) ?_ (one_bv _ _) ?_); (· exact rfl); (· exact rfl); (· exact rfl); (· exact rfl); (· have := heap_alloc_last ((w.alloc (.cells (tab 32 fun i => bv (x i)) 42)).alloc (.cells zh 42)) (.cells zh 42); simpa using this); (· rw [HZL.out, tab_size])))
  simp only [Act.put]
  have H1 : Hid (Fo w (w.heap.size + 1) (w.heap.size + 1 + 1) n a p (fold i x p 0) (World.setRow (((w.alloc (.cells (tab 32 fun i => bv (x i)) 42)).alloc (.cells zh 42)).alloc (.cells zh 42)) (w.heap.size + 1 + 1) (tab 32 fun i => bv (x i)))) := by
    have e1 : (w.alloc (.cells (tab 32 fun i => bv (x i)) 42)).heap.size = w.heap.size + 1 := by simp
    have e2 : ((w.alloc (.cells (tab 32 fun i => bv (x i)) 42)).alloc (.cells zh 42)).heap.size = w.heap.size + 1 + 1 := by simp
    have b3 : Below w.heap.size w (((w.alloc (.cells (tab 32 fun i => bv (x i)) 42)).alloc (.cells zh 42)).alloc (.cells zh 42)) := (((Below.refl _ _).alloc (Nat.le_refl _) _).alloc (by simp) _).alloc (by simp; omega) _
    have t6 := (put_new (w.alloc (.cells (tab 32 fun i => bv (x i)) 42)) x zh HZ.out).alloc (.cells zh 42)
    rw [e1] at t6
    have t8 := put_new ((w.alloc (.cells (tab 32 fun i => bv (x i)) 42)).alloc (.cells zh 42)) x zh HZ.out
    rw [e2] at t8
    have h0 : Fo w (w.heap.size + 1) (w.heap.size + 1 + 1) n a p (fun _ => 0#8) (((w.alloc (.cells (tab 32 fun i => bv (x i)) 42)).alloc (.cells zh 42)).alloc (.cells zh 42)) := ⟨t8, t6, HS.out.below b3, b3, by omega, by omega, HS.out.inHeap⟩
    exact Lib.hid (h0.set x)
  generalize World.setRow (((w.alloc (.cells (tab 32 fun i => bv (x i)) 42)).alloc (.cells zh 42)).alloc (.cells zh 42)) (w.heap.size + 1 + 1) (tab 32 fun i => bv (x i)) = y0 at *
  generalize w.heap.size + 1 + 1 = q8 at *
  generalize w.heap.size + 1 = q6 at *
  go_upto_region 5 with (fail)
  go_loopw [0, 26] (fun ti tc y => ∃ r m : Nat, r ≤ n ∧ tc = .int .i64 r ∧ ti = .int .i64 m ∧ Hid (m = i / 2 ^ r) ∧ Hid (Fo w q6 q8 n a p (fold i x p r) y)) (fun _ tc _ => n - (intOf tc).toNat)
  case atStart => exact ⟨0, i, Nat.zero_le _, rfl, rfl, Lib.hid (by simp), H1⟩
  case round =>
    obtain ⟨r, m, hr, rfl, rfl, hm, hp⟩ := hrel
    clear H1
    have hmi : m ≤ i := by rw [hm.out]; exact Nat.div_le_self _ _
    have hmb : (m : Int) ≤ 65536 := by omega
    clear hmi
    by_cases hlt : (r : Int) < (n : Int)
    · obtain ⟨b, o, hab, h5⟩ := hp.out.hp.at (show r < n by omega)
      subst hab
      have DP := Lib.hid (loadH h5 (k := r) (p := o + r * 32) (by omega) (by omega))
      clear h5
      go_upto_region 7 with (first
        | ((with_reducible refine wpList_loadE (P := Tryd.prog) (w := wr) (ty := 42) (x := .tmp 28) (p := .pointer (some ⟨b, o + r * 32, none⟩)) (v := dv (p r)) ?_ ?_ ?_ DP.out ?_); (· exact rfl); (· exact rfl); (· exact rfl))
        | ((with_reducible refine wpList_store_row (P := Tryd.prog) (w := wr.alloc (.cells zh 42)) ?_ 42 (.tmp 10) (.tmp 29) ?_ wr.heap.size (tab 32 fun i => bv (p r i)) ?_ ?_ 42 zh (heap_alloc_last wr _) (infH _) ?_ (one_bv _ _) ?_); (· exact rfl); (· exact rfl); (· exact rfl); (· exact rfl); (· rw [HZL.out, tab_size]); rw [World.setRow_alloc_new]; simp only [Act.put]))
      have hb7 : Below wr.heap.size wr (wr.alloc (.cells (tab 32 fun i => bv (p r i)) 42)) := (Below.refl _ _).alloc (Nat.le_refl _) _
      have H7 := Lib.hid (And.intro (hp.out.next hb7) (IsTab.new wr 42 32 fun i => bv (p r i)))
      clear hb7 DP hp
      generalize wr.alloc (.cells (tab 32 fun i => bv (p r i)) 42) = y1 at *
      generalize wr.heap.size = q10 at *
      have D8 := Lib.hid (load32h H7.out.1.s8)
      have D10 := Lib.hid (load32h H7.out.2)
      have hstep : fold i x p (r + 1) = if m % 2 = 0 then pr (fold i x p r) (p r) else pr (p r) (fold i x p r) := by rw [hm.out]; rfl
      have HST := Lib.hid hstep
      clear hstep
      generalize fold i x p r = z at *
      by_cases he : m % 2 = 0
      · have ht1 : ((m : Int) % 2 == 0) = true := by
          have : (m : Int) % 2 = 0 := by omega
          simpa using this
        have HPR := Lib.hid (pair_dv z (p r) y1 (ktab_below HT.out H7.out.1.below))
        have HX : Hid (fold i x p (r + 1) = pr z (p r)) := Lib.hid (by rw [HST.out, if_pos he])
        clear he HST
        go_upto_region 10 with (first
          | ((with_reducible refine wpList_loadE (P := Tryd.prog) (w := y1) (ty := 42) (x := .tmp 8) (p := .pointer (some ⟨q8, 0, none⟩)) (v := dv z) ?_ ?_ ?_ D8.out ?_); (· exact rfl); (· exact rfl); (· exact rfl))
          | ((with_reducible refine wpList_loadE (P := Tryd.prog) (w := y1) (ty := 42) (x := .tmp 10) (p := .pointer (some ⟨q10, 0, none⟩)) (v := dv (p r)) ?_ ?_ ?_ D10.out ?_); (· exact rfl); (· exact rfl); (· exact rfl))
          | (go_at_call 39; refine HPR.out.mono ?_; rintro e y2 ⟨rfl, hb⟩; have H8 := Lib.hid (H7.out.1.next hb); clear hb)
          | ((with_reducible refine wpList_store_row (P := Tryd.prog) (w := y2) ?_ 42 (.tmp 8) (.tmp 35) ?_ q8 (tab 32 fun j => bv (pr z (p r) j)) ?_ ?_ 42 (tab 32 fun i => bv (z i)) ?_ (infH _) ?_ (one_bv _ _) ?_); (· exact rfl); (· exact rfl); (· exact rfl); (· exact rfl); (· exact H8.out.s8); (· rw [tab_size, tab_size])))
        have H9 := Lib.hid (H8.out.set (pr z (p r)))
        generalize World.setRow y2 q8 (tab 32 fun j => bv (pr z (p r) j)) = y3 at *
        simp only [Act.put]
        go_wp2_with fail
        go_roundw
        case rel =>
          refine ⟨r + 1, m / 2, by omega, by go_num, ?_, Lib.hid ?_, by rw [HX.out]; exact H9⟩
          · show Value.int .i64 _ = .int .i64 _
            congr 1
          · rw [hm.out, Nat.pow_succ, Nat.div_div_eq_div_mul]
        case measure => simp [intOf]; omega
      · have ht1 : ((m : Int) % 2 == 0) = false := by
          have : ¬ (m : Int) % 2 = 0 := by omega
          simpa using this
        have HPR := Lib.hid (pair_dv (p r) z y1 (ktab_below HT.out H7.out.1.below))
        have HX : Hid (fold i x p (r + 1) = pr (p r) z) := Lib.hid (by rw [HST.out, if_neg he])
        clear he HST
        go_upto_region 10 with (first
          | ((with_reducible refine wpList_loadE (P := Tryd.prog) (w := y1) (ty := 42) (x := .tmp 8) (p := .pointer (some ⟨q8, 0, none⟩)) (v := dv z) ?_ ?_ ?_ D8.out ?_); (· exact rfl); (· exact rfl); (· exact rfl))
          | ((with_reducible refine wpList_loadE (P := Tryd.prog) (w := y1) (ty := 42) (x := .tmp 10) (p := .pointer (some ⟨q10, 0, none⟩)) (v := dv (p r)) ?_ ?_ ?_ D10.out ?_); (· exact rfl); (· exact rfl); (· exact rfl))
          | (go_at_call 39; refine HPR.out.mono ?_; rintro e y2 ⟨rfl, hb⟩; have H8 := Lib.hid (H7.out.1.next hb); clear hb)
          | ((with_reducible refine wpList_store_row (P := Tryd.prog) (w := y2) ?_ 42 (.tmp 8) (.tmp 38) ?_ q8 (tab 32 fun j => bv (pr (p r) z j)) ?_ ?_ 42 (tab 32 fun i => bv (z i)) ?_ (infH _) ?_ (one_bv _ _) ?_); (· exact rfl); (· exact rfl); (· exact rfl); (· exact rfl); (· exact H8.out.s8); (· rw [tab_size, tab_size])))
        have H9 := Lib.hid (H8.out.set (pr (p r) z))
        generalize World.setRow y2 q8 (tab 32 fun j => bv (pr (p r) z j)) = y3 at *
        simp only [Act.put]
        go_wp2_with fail
        go_roundw
        case rel =>
          refine ⟨r + 1, m / 2, by omega, by go_num, ?_, Lib.hid ?_, by rw [HX.out]; exact H9⟩
          · show Value.int .i64 _ = .int .i64 _
            congr 1
          · rw [hm.out, Nat.pow_succ, Nat.div_div_eq_div_mul]
        case measure => simp [intOf]; omega
    · obtain rfl : r = n := by omega
      have D8 := Lib.hid (load32h hp.out.s8)
      generalize hzz : fold i x p r = z at *
      have HZZ := Lib.hid hzz
      clear hzz
      go_wp2_with (first
        | ((with_reducible refine wpList_loadE (P := Tryd.prog) (w := wr) (ty := 42) (x := .tmp 8) (p := .pointer (some ⟨q8, 0, none⟩)) (v := dv z) ?_ ?_ ?_ D8.out ?_); (· exact rfl); (· exact rfl); (· exact rfl))
        | ((with_reducible refine wpList_store_row (P := Tryd.prog) (w := wr) ?_ 42 (.tmp 6) (.tmp 42) ?_ q6 (tab 32 fun j => bv (z j)) ?_ ?_ 42 (tab 32 fun i => bv ((fun _ => 0#8) i)) ?_ (infH _) ?_ (one_bv _ _) ?_); (· exact rfl); (· exact rfl); (· exact rfl); (· exact rfl); (· exact hp.out.s6); (· rw [tab_size, tab_size])))
      have hr : IsTab (World.setRow wr q6 (tab 32 fun j => bv (z j))) q6 42 32 fun j => bv (z j) := hp.out.s6.row
      exact bodyPost_ret (Kc.results_cell_tmp rfl _ _ q6 42 _ (0, 0) _ rfl hr undH rfl (infH _) .nilIface rfl) rfl ⟨by rw [HZZ.out], below_setRow hp.out.below hp.out.g6 _⟩
set_option maxHeartbeats 2000000 in
set_option maxRecDepth 100000 in
theorem fold_bad (i : Int) (x : Hx) (a : Option Addr) (n c : Nat) (w : World) (hn : n ≤ 9223372036854775807) (h : 16 < n ∨ i < 0 ∨ (2 : Int) ^ n ≤ i) :
    Calls Tryd.prog 41 #[.int .i64 i, dv x, .slice a n c] w fun e w' => e = .returned (.tuple #[dv (zero 0), .iface 85 (.int .i64 2)]) ∧ Below w.heap.size w w' := by
  have z2 := zeroHash
  generalize hz : (tab 32 fun _ => bv 0#8) = zh at *
  have HZ := Lib.hid hz
  clear hz
  have hzl : zh.size = 32 := by rw [← HZ.out, tab_size]
  have HZL := Lib.hid hzl
  have hzi : (Tryd.prog.info? 42).map (·.size) = some zh.size := by rw [hzl]; exact infHh
  have HZI := Lib.hid hzi
  have hzo : zh.all (·.oneCell') = true := by rw [← HZ.out]; exact one_bv _ _
  have HZO := Lib.hid hzo
  clear hzi hzo hzl
  have hN : (n : Int) ≤ 9223372036854775807 := by omega
  have hb : Below w.heap.size w ((w.alloc (.cells (tab 32 fun i => bv (x i)) 42)).alloc (.cells zh 42)) := ((Below.refl _ _).alloc (Nat.le_refl _) _).alloc (by simp) _
  have hq := put_new (w.alloc (.cells (tab 32 fun i => bv (x i)) 42)) x zh HZ.out
  rw [show (w.alloc (.cells (tab 32 fun i => bv (x i)) 42)).heap.size = w.heap.size + 1 from by simp] at hq
  have HB := Lib.hid (And.intro hb hq)
  clear hb hq
  unfold dv
  by_cases h1 : 16 < n
  · have h2 : (16 : Int) < n := by omega
    go_enter Tryd.func41, Tryd.ntmps41
    go_upto_region 2 with (fail)
    generalize (w.alloc (.cells (tab 32 fun i => bv (x i)) 42)).alloc (.cells zh 42) = y at *
    generalize hq1 : w.heap.size + 1 = q6 at *
    have HQ1 := Lib.hid hq1
    clear hq1
    go_wp2_with ((with_reducible refine wpList_store_row (P := Tryd.prog) (w := y) ?_ 42 (.tmp 6) (.tmp 21) ?_ q6 zh ?_ ?_ 42 (tab 32 fun _ => bv 0#8) ?_ HZI.out ?_ HZO.out ?_); (· exact rfl); (· exact rfl); (· exact rfl); (· exact rfl); (· exact HB.out.2); (· rw [HZL.out, tab_size]))
    have hr2 : IsTab (World.setRow y q6 zh) q6 42 32 fun _ => bv 0#8 := by
      have hr := IsTab.row (g := fun _ => bv 0#8) HB.out.2
      rw [HZ.out] at hr
      exact hr
    exact bodyPost_ret (Kc.results_cell_tmp rfl _ _ q6 42 _ (0, 0) _ rfl hr2 undH rfl (infH _) (.iface 85 (.int .i64 2)) rfl) rfl ⟨rfl, below_setRow HB.out.1 (by have := HQ1.out; omega) _⟩
  · have h2 : (n : Int) ≤ 16 := by omega
    have HPL := Lib.hid (place_no i n (by omega) ((w.alloc (.cells (tab 32 fun i => bv (x i)) 42)).alloc (.cells zh 42)) (by omega))
    go_enter Tryd.func41, Tryd.ntmps41
    go_upto_region 2 with (go_at_call 65; refine HPL.out.mono ?_; rintro e _ ⟨rfl, rfl⟩)
    generalize (w.alloc (.cells (tab 32 fun i => bv (x i)) 42)).alloc (.cells zh 42) = y at *
    generalize hq1 : w.heap.size + 1 = q6 at *
    have HQ1 := Lib.hid hq1
    clear hq1
    go_wp2_with ((with_reducible refine wpList_store_row (P := Tryd.prog) (w := y) ?_ 42 (.tmp 6) (.tmp 21) ?_ q6 zh ?_ ?_ 42 (tab 32 fun _ => bv 0#8) ?_ HZI.out ?_ HZO.out ?_); (· exact rfl); (· exact rfl); (· exact rfl); (· exact rfl); (· exact HB.out.2); (· rw [HZL.out, tab_size]))
    have hr2 : IsTab (World.setRow y q6 zh) q6 42 32 fun _ => bv 0#8 := by
      have hr := IsTab.row (g := fun _ => bv 0#8) HB.out.2
      rw [HZ.out] at hr
      exact hr
    exact bodyPost_ret (Kc.results_cell_tmp rfl _ _ q6 42 _ (0, 0) _ rfl hr2 undH rfl (infH _) (.iface 85 (.int .i64 2)) rfl) rfl ⟨rfl, below_setRow HB.out.1 (by have := HQ1.out; omega) _⟩
end Mk
end Go.Proofs.YtjfpbponjhpdhaaDoor
/-
  mootref05: Zero, Wrong, Zeros, Under. Own work.
-/
namespace Go.Proofs.YtjfpbponjhpdhaaDoor
open Go.RowKit
set_option linter.unusedVariables false
set_option linter.unusedSimpArgs false
namespace Mk
open Kc
theorem put_newR (w : World) (zh : Array Value) (hz : (tab 32 fun _ => bv 0#8) = zh) : IsTab (w.alloc (.cells zh 41)) w.heap.size 41 32 fun _ => bv 0#8 := by
  rw [← hz]; exact IsTab.new w _ 32 _
theorem load32r {y : World} {q : Nat} {x : Hx} (h : IsTab y q 41 32 fun i => bv (x i)) : (Instr.loadAt 41 (.pointer (some ⟨q, 0, none⟩))).run Tryd.prog y = .ok (dv x) y :=
  loadR (at5_of (n := 1) (f := fun _ => x) (m := 32) (h.cong fun i hi => by unfold hc; rw [show i % 32 = i from by omega]) (by omega)) (k := 0) (by omega) rfl
theorem buildR (x : Hx) (w : World) : (Instr.buildSlice 65 1 #[(0, dv x)]).run Tryd.prog w = .ok (.slice (some ⟨w.heap.size, 0, none⟩) 1 1) (w.alloc (.cells (tab 32 fun i => bv (x i)) 41)) := by kernel_rfl
theorem undRs : Tryd.prog.underlying 65 = some (.slice 41) := by kernel_rfl
theorem infRs : ∃ i, Tryd.prog.info? 41 = some i ∧ i.zero = some (dv fun _ => 0#8) ∧ i.size = 32 ∧ i.bytes = 32 :=
  ⟨(Tryd.prog.info? 41).get (by kernel_rfl), by kernel_rfl, by kernel_rfl, by kernel_rfl, by kernel_rfl⟩
theorem src1R (w : World) (x : Hx) : ((some ⟨w.heap.size, 0, none⟩ : Option Addr) = none ∧ 1 = 0 ∧ 1 = 0 ∧ flat 1 (fun _ => x) = []) ∨ ∃ ad, (some ⟨w.heap.size, 0, none⟩ : Option Addr) = some ad ∧ (flat 1 fun _ => x).length = 1 * 32 ∧ ∀ j u, (flat 1 fun _ => x)[j]? = some u → (w.alloc (.cells (tab 32 fun i => bv (x i)) 41)).cell? (ad.add j) = some u :=
  .inr ⟨_, rfl, flat_len _ _, fun j u hu => by
    rw [flat1] at hu
    rw [add_at, Nat.zero_add, cell_of_row _ _ _ _ _ _ (heap_alloc_last w _)]
    simpa using hu⟩
theorem refWrong (d : Int) (n : Nat) (w : World) (hn : n ≤ 9223372036854775807) :
    Calls Tryd.prog 44 #[.int .i64 d, .int .i64 n] w fun e w' => e = .returned (.int .i64 (wrong d n)) ∧ w = w' := by
  by_cases h0 : d < 0
  · rw [show wrong d n = 2 from by unfold wrong; rw [if_pos (.inl h0)]]
    go_enter Tryd.func44, Tryd.ntmps44
    go_wp2
    go_ret
    exact ⟨rfl, rfl⟩
  · by_cases h1 : 16 < d
    · rw [show wrong d n = 2 from by unfold wrong; rw [if_pos (.inr h1)]]
      go_enter Tryd.func44, Tryd.ntmps44
      go_wp2
      go_ret
      exact ⟨rfl, rfl⟩
    · obtain ⟨k, rfl⟩ : ∃ k : Nat, d = k := ⟨d.toNat, by omega⟩
      have hk : k ≤ 16 := by omega
      have hp : (2 : Int) ^ k ≤ 65536 := by have := p2_nat k 16 hk; simpa using this
      have hp0 := p2_pos k
      by_cases h2 : (2 : Int) ^ k < n
      · go_enter Tryd.func44, Tryd.ntmps44
        go_wp2
        go_ret
        refine ⟨?_, rfl⟩
        unfold wrong
        rw [if_neg (by omega), if_pos (by simpa using h2)]
        rfl
      · go_enter Tryd.func44, Tryd.ntmps44
        go_wp2
        go_ret
        refine ⟨?_, rfl⟩
        unfold wrong
        rw [if_neg (by omega), if_neg (by simpa using h2)]
        rfl
/-! ## Under -/
structure Un (W : World) (q8 n m : Nat) (a b : Option Addr) (f : Nat → Hx) (y : World) : Prop where
  s8 : IsTab y q8 41 32 fun _ => bv 0#8
  hf : IsHs y a n f
  hz : IsHs y b m zero
  below : Below W.heap.size W y
  g8 : W.heap.size ≤ q8
theorem Un.next {W y y' : World} {q8 n m : Nat} {a b : Option Addr} {f : Nat → Hx} (h : Un W q8 n m a b f y) (hb : Below y.heap.size y y') : Un W q8 n m a b f y' :=
  ⟨h.s8.below hb, h.hf.below hb, h.hz.below hb, bl h.below hb, h.g8⟩
set_option maxHeartbeats 1000000 in
set_option maxRecDepth 100000 in
theorem under_out (n c m c2 : Nat) (a b : Option Addr) (f : Nat → Hx) (h k : Nat) (w : World) (hs : IsHs w a n f) (hzs : IsHs w b m zero) (hm : m ≤ 32) (hh : h < m) (hk : n ≤ k) (hk2 : k ≤ 131072) :
    Calls Tryd.prog 45 #[.slice a n c, .int .i64 k, .int .i64 h, .slice b m c2] w fun e w' => e = .returned (dv (zero h)) ∧ Below w.heap.size w w' := by
  have z2 := zero26
  generalize hz : (tab 32 fun _ => bv 0#8) = zh at *
  have HZ := Lib.hid hz
  clear hz
  have hzl : zh.size = 32 := by rw [← HZ.out, tab_size]
  have HZL := Lib.hid hzl
  have hzi : (Tryd.prog.info? 41).map (·.size) = some zh.size := by rw [hzl]; exact inf26'
  have HZI := Lib.hid hzi
  have hzo : zh.all (·.oneCell') = true := by rw [← HZ.out]; exact one_bv _ _
  have HZO := Lib.hid hzo
  clear hzi hzo hzl
  have HY : Hid (Un w w.heap.size n m a b f (w.alloc (.cells zh 41))) := by
    have hb : Below w.heap.size w (w.alloc (.cells zh 41)) := (Below.refl _ _).alloc (Nat.le_refl _) _
    exact Lib.hid ⟨put_newR w zh HZ.out, hs.below hb, hzs.below hb, hb, Nat.le_refl _⟩
  clear hs hzs
  obtain ⟨bb, oo, rfl, h5⟩ := HY.out.hz.at hh
  have DZ := Lib.hid (loadR h5 (k := h) (p := oo + h * 32) hh (by omega))
  clear h5
  have h1 : (n : Int) ≤ (k : Int) := by omega
  have h2 : (h : Int) < (m : Int) := by omega
  have h3 : (m : Int) ≤ 32 := by omega
  have h4 : (k : Int) ≤ 131072 := by omega
  go_enter Tryd.func45, Tryd.ntmps45
  go_upto_region 2 with (fail)
  generalize w.alloc (.cells zh 41) = y at *
  go_wp2_with (first
    | ((with_reducible refine wpList_loadE (P := Tryd.prog) (w := y) (ty := 41) (x := .tmp 15) (p := .pointer (some ⟨bb, oo + h * 32, none⟩)) (v := dv (zero h)) ?_ ?_ ?_ DZ.out ?_); (· exact rfl); (· exact rfl); (· exact rfl))
    | ((with_reducible refine wpList_store_row (P := Tryd.prog) (w := y) ?_ 41 (.tmp 8) (.tmp 16) ?_ w.heap.size (tab 32 fun j => bv (zero h j)) ?_ ?_ 41 (tab 32 fun i => bv ((fun _ => 0#8) i)) ?_ (inf26 _) ?_ (one_bv _ _) ?_); (· exact rfl); (· exact rfl); (· exact rfl); (· exact rfl); (· exact HY.out.s8); (· rw [tab_size, tab_size])))
  have hr : IsTab (World.setRow y w.heap.size (tab 32 fun j => bv (zero h j))) w.heap.size 41 32 fun j => bv (zero h j) := HY.out.s8.row
  exact bodyPost_ret (results_cell_row rfl _ _ w.heap.size 41 _ (0, 0) _ rfl hr und26 rfl (inf26 _)) rfl ⟨rfl, below_setRow HY.out.below (Nat.le_refl _) _⟩
set_option maxHeartbeats 1000000 in
set_option maxRecDepth 100000 in
theorem under_leaf (n c m c2 : Nat) (a b : Option Addr) (f : Nat → Hx) (k : Nat) (w : World) (hs : IsHs w a n f) (hzs : IsHs w b m zero) (hnc : n ≤ c) (hn : n ≤ 65536) (hk : k < n) :
    Calls Tryd.prog 45 #[.slice a n c, .int .i64 k, .int .i64 0, .slice b m c2] w fun e w' => e = .returned (dv (f k)) ∧ Below w.heap.size w w' := by
  have z2 := zero26
  generalize hz : (tab 32 fun _ => bv 0#8) = zh at *
  have HZ := Lib.hid hz
  clear hz
  have hzl : zh.size = 32 := by rw [← HZ.out, tab_size]
  have HZL := Lib.hid hzl
  have hzi : (Tryd.prog.info? 41).map (·.size) = some zh.size := by rw [hzl]; exact inf26'
  have HZI := Lib.hid hzi
  have hzo : zh.all (·.oneCell') = true := by rw [← HZ.out]; exact one_bv _ _
  have HZO := Lib.hid hzo
  clear hzi hzo hzl
  have HY : Hid (Un w w.heap.size n m a b f (w.alloc (.cells zh 41))) := by
    have hb : Below w.heap.size w (w.alloc (.cells zh 41)) := (Below.refl _ _).alloc (Nat.le_refl _) _
    exact Lib.hid ⟨put_newR w zh HZ.out, hs.below hb, hzs.below hb, hb, Nat.le_refl _⟩
  clear hs hzs
  obtain ⟨bb, oo, rfl, h5⟩ := HY.out.hf.at hk
  have DZ := Lib.hid (loadR h5 (k := k) (p := oo + k * 32) hk (by omega))
  clear h5
  have h1 : (k : Int) < (n : Int) := by omega
  have h3 : (n : Int) ≤ 65536 := by omega
  go_enter Tryd.func45, Tryd.ntmps45
  go_upto_region 4 with (fail)
  generalize w.alloc (.cells zh 41) = y at *
  go_wp2_with (first
    | ((with_reducible refine wpList_loadE (P := Tryd.prog) (w := y) (ty := 41) (x := .tmp 21) (p := .pointer (some ⟨bb, oo + k * 32, none⟩)) (v := dv (f k)) ?_ ?_ ?_ DZ.out ?_); (· exact rfl); (· exact rfl); (· exact rfl))
    | ((with_reducible refine wpList_store_row (P := Tryd.prog) (w := y) ?_ 41 (.tmp 8) (.tmp 22) ?_ w.heap.size (tab 32 fun j => bv (f k j)) ?_ ?_ 41 (tab 32 fun i => bv ((fun _ => 0#8) i)) ?_ (inf26 _) ?_ (one_bv _ _) ?_); (· exact rfl); (· exact rfl); (· exact rfl); (· exact rfl); (· exact HY.out.s8); (· rw [tab_size, tab_size])))
  have hr : IsTab (World.setRow y w.heap.size (tab 32 fun j => bv (f k j))) w.heap.size 41 32 fun j => bv (f k j) := HY.out.s8.row
  exact bodyPost_ret (results_cell_row rfl _ _ w.heap.size 41 _ (0, 0) _ rfl hr und26 rfl (inf26 _)) rfl ⟨rfl, below_setRow HY.out.below (Nat.le_refl _) _⟩
set_option maxHeartbeats 1000000 in
set_option maxRecDepth 100000 in
theorem under_step (n c m c2 : Nat) (a b : Option Addr) (f : Nat → Hx) (h k : Nat) (x y2 : Hx) (w : World) (hs : IsHs w a n f) (hzs : IsHs w b m zero) (hn : n ≤ 65536) (hm : m ≤ 32) (hh : h + 1 < m) (hk : k < n)
    (c1 : ∀ w : World, IsHs w a n f → IsHs w b m zero → Calls Tryd.prog 45 #[.slice a n c, .int .i64 k, .int .i64 h, .slice b m c2] w fun e w' => e = .returned (dv x) ∧ Below w.heap.size w w')
    (c2' : ∀ w : World, IsHs w a n f → IsHs w b m zero → Calls Tryd.prog 45 #[.slice a n c, .int .i64 ((k : Int) + 2 ^ h), .int .i64 h, .slice b m c2] w fun e w' => e = .returned (dv y2) ∧ Below w.heap.size w w') :
    Calls Tryd.prog 45 #[.slice a n c, .int .i64 k, .int .i64 (h + 1 : Nat), .slice b m c2] w fun e w' => e = .returned (dv (pr x y2)) ∧ Below w.heap.size w w' := by
  have z2 := zero26
  generalize hz : (tab 32 fun _ => bv 0#8) = zh at *
  have HZ := Lib.hid hz
  clear hz
  have hzl : zh.size = 32 := by rw [← HZ.out, tab_size]
  have HZL := Lib.hid hzl
  have hzi : (Tryd.prog.info? 41).map (·.size) = some zh.size := by rw [hzl]; exact inf26'
  have HZI := Lib.hid hzi
  have hzo : zh.all (·.oneCell') = true := by rw [← HZ.out]; exact one_bv _ _
  have HZO := Lib.hid hzo
  clear hzi hzo hzl
  have HY : Hid (Un w w.heap.size n m a b f (w.alloc (.cells zh 41))) := by
    have hb : Below w.heap.size w (w.alloc (.cells zh 41)) := (Below.refl _ _).alloc (Nat.le_refl _) _
    exact Lib.hid ⟨put_newR w zh HZ.out, hs.below hb, hzs.below hb, hb, Nat.le_refl _⟩
  clear hs hzs
  have C1 := Lib.hid (c1 _ HY.out.hf HY.out.hz)
  have C2 := Lib.hid c2'
  clear c1 c2'
  have h1 : (k : Int) < (n : Int) := by omega
  have h3 : (n : Int) ≤ 65536 := by omega
  have h4 : (h : Int) + 1 ≤ 32 := by omega
  have hp : (2 : Int) ^ h ≤ 4294967296 := by have := p2_nat h 32 (by omega); simpa using this
  have hp0 := p2_pos h
  have hne : ((h : Int) + 1 == 0) = false := by
    have : ¬ (h : Int) + 1 = 0 := by omega
    simpa using this
  rw [show ((h + 1 : Nat) : Int) = (h : Int) + 1 from rfl]
  go_enter Tryd.func45, Tryd.ntmps45
  go_upto_region 5 with (fail)
  generalize w.alloc (.cells zh 41) = y at *
  go_wp2_with (first
    | (go_at_call 45; (with_reducible refine C1.out.mono ?_); rintro e y3 ⟨rfl, hb⟩; have H3 := Lib.hid (HY.out.next hb); have C3 := Lib.hid (C2.out _ H3.out.hf H3.out.hz); clear hb C1)
    | (go_at_call 45; (with_reducible refine C3.out.mono ?_); rintro e y4 ⟨rfl, hb⟩; have H4 := Lib.hid (H3.out.next hb); have C4 := Lib.hid (rpair_dv x y2 y4); clear hb)
    | (go_at_call 48; (with_reducible refine C4.out.mono ?_); rintro e y5 ⟨rfl, hb⟩; have H5 := Lib.hid (H4.out.next hb); clear hb)
    | ((with_reducible refine wpList_store_row (P := Tryd.prog) (w := y5) ?_ 41 (.tmp 8) (.tmp 40) ?_ w.heap.size (tab 32 fun j => bv (pr x y2 j)) ?_ ?_ 41 (tab 32 fun i => bv ((fun _ => 0#8) i)) ?_ (inf26 _) ?_ (one_bv _ _) ?_); (· exact rfl); (· exact rfl); (· exact rfl); (· exact rfl); (· exact H5.out.s8); (· rw [tab_size, tab_size])))
  have hr : IsTab (World.setRow y5 w.heap.size (tab 32 fun j => bv (pr x y2 j))) w.heap.size 41 32 fun j => bv (pr x y2 j) := H5.out.s8.row
  exact bodyPost_ret (results_cell_row rfl _ _ w.heap.size 41 _ (0, 0) _ rfl hr und26 rfl (inf26 _)) rfl ⟨rfl, below_setRow H5.out.below (Nat.le_refl _) _⟩
theorem under_walk (n c m c2 : Nat) (a b : Option Addr) (f : Nat → Hx) (hn : n ≤ 65536) (hnc : n ≤ c) (hm : m ≤ 32) : ∀ (h k : Nat), h < m → k + 2 ^ h ≤ 131072 → ∀ w : World, IsHs w a n f → IsHs w b m zero →
    Calls Tryd.prog 45 #[.slice a n c, .int .i64 k, .int .i64 h, .slice b m c2] w fun e w' => e = .returned (dv (und (ext n f) h k)) ∧ Below w.heap.size w w' := by
  intro h
  induction h with
  | zero =>
    intro k hhm hk w hs hzs
    by_cases hkn : k < n
    · have e : und (ext n f) 0 k = f k := ext_in f hkn
      rw [e]
      exact under_leaf n c m c2 a b f k w hs hzs hnc hn hkn
    · rw [und_ext_out n f 0 k (by omega)]
      exact under_out n c m c2 a b f 0 k w hs hzs hm hhm (by omega) (by omega)
  | succ h ih =>
    intro k hhm hk w hs hzs
    have hp2 : 2 ^ (h + 1) = 2 ^ h + 2 ^ h := by rw [Nat.pow_succ]; omega
    by_cases hkn : k < n
    · have e : ((k + 2 ^ h : Nat) : Int) = (k : Int) + 2 ^ h := by rw [Int.natCast_add, Int.natCast_pow]; rfl
      have h2 := ih (k + 2 ^ h) (by omega) (by omega)
      rw [e] at h2
      exact under_step n c m c2 a b f h k _ _ w hs hzs hn hm hhm hkn (ih k (by omega) (by omega)) h2
    · rw [und_ext_out n f (h + 1) k (by omega)]
      exact under_out n c m c2 a b f (h + 1) k w hs hzs hm hhm (by omega) (by have := Nat.one_le_two_pow (n := h); omega)
end Mk
end Go.Proofs.YtjfpbponjhpdhaaDoor
/-
  mootref05: Zero, Zeros, Root. Own work.
-/
namespace Go.Proofs.YtjfpbponjhpdhaaDoor
open Go.RowKit
set_option linter.unusedVariables false
set_option linter.unusedSimpArgs false
section
variable {P : Program}
theorem wp_build1 {op : Oper} {a : Act} {w : World} {K : Act → World → Prop} {Q : Exit → Act → World → Prop} (t : TypeId) (x : Operand) (ho : op.op = .buildSlice t 1 #[(0, x)]) (p v : Value) (hx : a.eval x = p) (w' : World) (hl : (Instr.buildSlice t 1 #[(0, p)]).run P w = .ok v w')
    (h : K (a.put op.dst v) w') : op.wp P a w K Q := by
  unfold Oper.wp execOp
  simp only [ho, List.map_toArray, List.map_cons, List.map_nil, hx]
  simp [hl]
  exact h
end
namespace Mk
open Kc
theorem mk1R (w : World) : (Instr.makeSlice 65 (.int .i64 1) (.int .i64 1)).run Tryd.prog w = .ok (.slice (some ⟨w.heap.size, 0, none⟩) 1 1) (w.alloc (.cells (tab 32 fun _ => bv 0#8) 41)) := by kernel_rfl
theorem src1R' (w : World) (x : Hx) : (flat 1 fun _ => x).length = 1 * 32 ∧ ∀ j u, (flat 1 fun _ => x)[j]? = some u → (w.alloc (.cells (tab 32 fun i => bv (x i)) 41)).cell? ((⟨w.heap.size, 0, none⟩ : Addr).add j) = some u :=
  ⟨flat_len _ _, fun j u hu => by
    rw [flat1] at hu
    rw [add_at, Nat.zero_add, cell_of_row _ _ _ _ _ _ (heap_alloc_last w _)]
    simpa using hu⟩
theorem owns1 (w : World) (x : Hx) : (w.alloc (.cells (tab 32 fun i => bv (x i)) 41)).ownsRow w.heap.size 41 32 (.slice (some ⟨w.heap.size, 0, none⟩) 1 1) 1 (flat 1 fun _ => x) :=
  ⟨by rw [flat_len], .inr ⟨w.heap.size, 1, _, rfl, Nat.le_refl _, heap_alloc_last w _, Nat.le_refl _, by decide, by rw [tab_size], by rw [flat1]; exact List.take_of_length_le (by simp [tab])⟩⟩
structure Zs (W : World) (k : Nat) (V : Value) (y : World) : Prop where
  row : y.ownsRow W.heap.size 41 32 V k (flat k zero)
  below : Below W.heap.size W y
theorem Zs.next {W y y' : World} {k : Nat} {V : Value} (h : Zs W k V y) (hb : Below y.heap.size y y') : Zs W k V y' :=
  ⟨(Kept.ofBelow (S := fun _ => False) hb).row h.row (fun _ _ h => h), bl h.below hb⟩
theorem Zs.drew {W y : World} {k : Nat} {V : Value} (h : Zs W k V y) : Zs W k V y.drew := ⟨h.row, h.below.drew⟩
set_option maxHeartbeats 2000000 in
set_option maxRecDepth 100000 in
theorem zeros_walk (w : World) :
    Calls Tryd.prog 46 #[] w fun e w' => ∃ V, e = .returned V ∧ w'.ownsRow w.heap.size 41 32 V 17 (flat 17 zero) ∧ Below w.heap.size w w' := by
  have hmk := mk1R
  obtain ⟨i0, hi0, hi1, hi2, hi3⟩ := infRs
  have HI := Lib.hid (And.intro hi0 (And.intro hi1 (And.intro hi2 hi3)))
  clear hi0 hi1 hi2 hi3
  go_enter Tryd.func46, Tryd.ntmps46
  go_upto_region 3 with (fail)
  have H1 : Hid (Zs w 1 (.slice (some ⟨w.heap.size, 0, none⟩) 1 1) (w.alloc (.cells (tab 32 fun _ => bv 0#8) 41))) := by
    have h1 := owns1 w (fun _ => 0#8)
    rw [show flat 1 (fun _ => fun _ => 0#8) = flat 1 zero from flat_cong fun k hk => by rw [show k = 0 by omega]; rfl] at h1
    exact Lib.hid ⟨h1, (Below.refl _ _).alloc (Nat.le_refl _) _⟩
  clear hmk
  generalize w.alloc (.cells (tab 32 fun _ => bv 0#8) 41) = y0 at *
  generalize (Value.slice (some ⟨w.heap.size, 0, none⟩) 1 1) = V0 at *
  go_loopw [1, 2] (fun tv t y => ∃ k : Nat, k ≤ 16 ∧ t = .int .i64 k ∧ Hid (Zs w (k + 1) tv y)) (fun _ t _ => 16 - (intOf t).toNat)
  case atStart => exact ⟨0, by decide, rfl, H1⟩
  case round =>
    obtain ⟨k, hk, rfl, hp⟩ := hrel
    clear H1
    generalize u1 = V at *
    by_cases hlt : (k : Int) < 16
    · go_upto_region 5 with (fail)
      obtain ⟨a1, c1, rfl, hs1, hn1, hc1, hc2, _⟩ := hs_of hp.out.row
      obtain ⟨b, o, rfl, _⟩ := hs1.at (show k < k + 1 by omega)
      have hld : ∀ u, Zs w (k + 1) (.slice (some ⟨b, o, none⟩) (k + 1) c1) u → (Instr.loadAt 41 (.pointer (some ⟨b, o + k * 32, none⟩))).run Tryd.prog u = .ok (dv (zero k)) u := fun u hu => by
        obtain ⟨a2, c2, e2, hs2, _⟩ := hs_of hu.row
        injection e2 with e2 e3 e4
        subst e2
        obtain ⟨b3, o3, e5, h5⟩ := hs2.at (show k < k + 1 by omega)
        injection e5 with e5
        injection e5 with e6 e7
        subst e6 e7
        exact loadR h5 (k := k) (p := o + k * 32) (by omega) (by omega)
      have LD := Lib.hid hld
      have hk0 : (0 : Int) ≤ (k : Int) ∧ (k : Int) < (k : Int) + 1 := by omega
      have HK := Lib.hid hk0
      clear hld hs1 hn1 hk0
      refine wp_region_ord (Zs w (k + 1) (.slice (some ⟨b, o, none⟩) (k + 1) c1)) [(0, true), (1, true), (2, true), (3, true), (4, true), (5, true), (6, true), (7, true), (8, true), (9, false), (10, false), (11, false), (12, false)] (by kernel_rfl) (by kernel_rfl) hp.out.drew ?_
      refine wpOrd_tk (some 8) (.slice (some ⟨b, o, none⟩) (k + 1) c1) rfl rfl (by rfl) (fun _ _ => rfl) ?_
      simp only [Act.put, List.setIfInBounds_toArray, List.set_cons_zero, List.set_cons_succ]
      refine wpOrd_tk (some 9) (.slice (some ⟨b, o, none⟩) (k + 1) c1) rfl rfl (by rfl) (fun _ _ => rfl) ?_
      simp only [Act.put, List.setIfInBounds_toArray, List.set_cons_zero, List.set_cons_succ]
      refine wpOrd_tk (some 10) (.int .i64 k) rfl rfl (by rfl) (fun _ _ => rfl) ?_
      simp only [Act.put, List.setIfInBounds_toArray, List.set_cons_zero, List.set_cons_succ]
      refine wpOrd_tk (some 11) (.pointer (some ⟨b, o + k * 32, none⟩)) rfl rfl (by rfl) (fun _ _ => by have := HK.out; simp [execOp, go_sem, this]) ?_
      simp only [Act.put, List.setIfInBounds_toArray, List.set_cons_zero, List.set_cons_succ]
      refine wpOrd_ld (some 12) 41 (.tmp 11) (.pointer (some ⟨b, o + k * 32, none⟩)) (dv (zero k)) rfl rfl (by rfl) rfl rfl LD.out ?_
      simp only [Act.put, List.setIfInBounds_toArray, List.set_cons_zero, List.set_cons_succ]
      refine wpOrd_tk (some 13) (.slice (some ⟨b, o, none⟩) (k + 1) c1) rfl rfl (by rfl) (fun _ _ => rfl) ?_
      simp only [Act.put, List.setIfInBounds_toArray, List.set_cons_zero, List.set_cons_succ]
      refine wpOrd_tk (some 14) (.int .i64 k) rfl rfl (by rfl) (fun _ _ => rfl) ?_
      simp only [Act.put, List.setIfInBounds_toArray, List.set_cons_zero, List.set_cons_succ]
      refine wpOrd_tk (some 15) (.pointer (some ⟨b, o + k * 32, none⟩)) rfl rfl (by rfl) (fun _ _ => by have := HK.out; simp [execOp, go_sem, this]) ?_
      simp only [Act.put, List.setIfInBounds_toArray, List.set_cons_zero, List.set_cons_succ]
      refine wpOrd_ld (some 16) 41 (.tmp 15) (.pointer (some ⟨b, o + k * 32, none⟩)) (dv (zero k)) rfl rfl (by rfl) rfl rfl LD.out ?_
      simp only [Act.put, List.setIfInBounds_toArray, List.set_cons_zero, List.set_cons_succ]
      have HPR := Lib.hid (rpair_dv (zero k) (zero k) wr.drew)
      have HD := Lib.hid hp.out.drew
      clear hp LD
      generalize wr.drew = y0 at *
      refine wpOrd_f (o := ⟨some 17, .call { callee := .value (.func 48), args := #[.tmp 12, .tmp 16], argTypes := #[41, 41] }, 41, "ref.go:38", _, none⟩) rfl (by rfl) fun J hJ => ?_
      go_simp
      refine HPR.out.mono ?_
      rintro e y1 ⟨rfl, hb⟩
      have HZ := Lib.hid (HD.out.next hb)
      clear hb HD HPR
      refine hJ _ _ HZ.out ?_
      clear hJ J
      try simp only [Act.put, List.setIfInBounds_toArray, List.set_cons_zero, List.set_cons_succ]
      have hba : Below y1.heap.size y1 (y1.alloc (.cells (tab 32 fun j => bv (pr (zero k) (zero k) j)) 41)) := (Below.refl _ _).alloc (Nat.le_refl _) _
      have HB := Lib.hid (HZ.out.next hba)
      clear hba
      refine wpOrd_f (o := ⟨some 18, .buildSlice 65 1 #[(0, .tmp 17)], 65, "ref.go:38", _, none⟩) rfl (by rfl) fun J hJ => ?_
      refine wp_build1 65 (.tmp 17) rfl (dv (pr (zero k) (zero k))) (.slice (some ⟨y1.heap.size, 0, none⟩) 1 1) rfl (y1.alloc (.cells (tab 32 fun j => bv (pr (zero k) (zero k) j)) 41)) (buildR _ y1) ?_
      refine hJ _ _ HB.out ?_
      clear hJ J
      simp only [Act.put, List.setIfInBounds_toArray, List.set_cons_zero, List.set_cons_succ]
      have HSR := Lib.hid (src1R' y1 (pr (zero k) (zero k)))
      have hlb : Hid (k + 1 + 1 ≤ maxLen ∧ (k + 1 + 1) * 32 ≤ 140737488355328) := Lib.hid ⟨by unfold maxLen; omega, by omega⟩
      refine wpOrd_f (o := ⟨some 19, .call { callee := .builtin .append, args := #[.tmp 8, .tmp 18], argTypes := #[65, 65] }, 65, "ref.go:38", _, none⟩) rfl (by rfl) fun J hJ => ?_
      refine wp_append_old (w := y1.alloc (.cells (tab 32 fun j => bv (pr (zero k) (zero k) j)) 41)) (.tmp 8) (.tmp 18) 65 rfl w.heap.size 41 i0 (dv fun _ => 0#8) 32 32 undRs HI.out zcells (by decide) (.slice (some ⟨b, o, none⟩) (k + 1) c1) (k + 1) (flat (k + 1) zero) rfl HB.out.row ⟨y1.heap.size, 0, none⟩ 1 1 (flat 1 fun _ => pr (zero k) (zero k)) rfl HSR.out.1 HSR.out.2 (flat_one _ _) hlb.out.1 hlb.out.2 (by have := HB.out.below.size; omega) ?_
      intro V7 w7 hown7 hgr7 hold7
      have hown : w7.ownsRow w.heap.size 41 32 V7 (k + 1 + 1) (flat (k + 1 + 1) zero) := by
        have e : flat (k + 1) zero ++ flat 1 (fun _ => pr (zero k) (zero k)) = flat (k + 1 + 1) zero := flat_step (k + 1) zero
        rw [e] at hown7; exact hown7
      have hbw : Below w.heap.size w w7 := below_grown (Nat.le_refl _) HB.out.below hgr7 (fun j hj => (HB.out.row.lt j hj).1)
      have H7 : Hid (Zs w (k + 1 + 1) V7 w7 ∧ Zs w (k + 1) (.slice (some ⟨b, o, none⟩) (k + 1) c1) w7) := Lib.hid ⟨⟨hown, hbw⟩, ⟨hold7, hbw⟩⟩
      clear hown hbw hown7 hgr7 hold7 HZ HSR hlb HB
      refine hJ _ _ H7.out.2 ?_
      clear hJ J
      simp only [Act.put, List.setIfInBounds_toArray, List.set_cons_zero, List.set_cons_succ]
      refine wpOrd_f (o := ⟨some 1, .assign (.tmp 19), 65, "ref.go:38", _, none⟩) rfl (by rfl) fun J hJ => ?_
      go_simp
      refine hJ _ _ H7.out.2 ?_
      clear hJ J
      refine wpOrd_done (NoPanic.normal ?_)
      go_wp2_with fail
      go_roundw
      case rel => exact ⟨k + 1, by omega, by go_num, Lib.hid H7.out.1⟩
      case measure => simp [intOf]; omega
    · obtain rfl : k = 16 := by omega
      go_wp2_with fail
      go_ret
      exact ⟨_, rfl, hp.out.row, hp.out.below⟩
/-- What the program's Root answers, and the document's. -/
def rootR (d : Int) (n : Nat) (f : Nat → Hx) : Hx := rootOf d n f
set_option maxHeartbeats 2000000 in
set_option maxRecDepth 100000 in
theorem refRoot (d : Int) (a : Option Addr) (n c : Nat) (f : Nat → Hx) (w : World) (hs : IsHs w a n f) (hnc : n ≤ c) (hn : n ≤ 9223372036854775807) :
    Calls Tryd.prog 21 #[.int .i64 d, .slice a n c] w fun e w' => e = .returned (.tuple #[dv (rootOf d n f), .int .i64 (wrong d n)]) ∧ Below w.heap.size w w' := by
  have z2 := zero26
  generalize hz : (tab 32 fun _ => bv 0#8) = zh at *
  have HZ := Lib.hid hz
  clear hz
  have hzl : zh.size = 32 := by rw [← HZ.out, tab_size]
  have HZL := Lib.hid hzl
  have hzi : (Tryd.prog.info? 41).map (·.size) = some zh.size := by rw [hzl]; exact inf26'
  have HZI := Lib.hid hzi
  have hzo : zh.all (·.oneCell') = true := by rw [← HZ.out]; exact one_bv _ _
  have HZO := Lib.hid hzo
  clear hzi hzo hzl
  have hN : (n : Int) ≤ 9223372036854775807 := by omega
  have T4 := Lib.hid (put_newR w zh HZ.out)
  have B4 : Hid (Below w.heap.size w (w.alloc (.cells zh 41))) := Lib.hid ((Below.refl _ _).alloc (Nat.le_refl _) _)
  have HCK := Lib.hid (refWrong d n (w.alloc (.cells zh 41)) hn)
  have HS := Lib.hid (hs.below B4.out)
  clear hs
  by_cases h0 : wrong d n = 0
  · obtain ⟨k, rfl, hk, hnk⟩ := wrong_ok h0
    have h16 := two16 hk
    have hro : rootOf (k : Int) n f = und (ext n f) k 0 := by unfold rootOf; rw [if_pos h0]; rfl
    rw [hro, h0]
    rw [h0] at HCK
    have HZW := Lib.hid (zeros_walk (w.alloc (.cells zh 41)))
    have hn6 : n ≤ 65536 := by omega
    clear h0 hnk hro hn
    go_enter Tryd.func21, Tryd.ntmps21
    go_wp2_with (first
      | (go_at_call 44; (with_reducible refine HCK.out.mono ?_); rintro e _ ⟨rfl, rfl⟩)
      | (go_at_call 46; (with_reducible refine HZW.out.mono ?_); rintro e y2 ⟨V, rfl, hrow, hb⟩; obtain ⟨b, c2, rfl, hz, _⟩ := hs_of hrow; have H2 := Lib.hid (And.intro (HS.out.below hb) (And.intro (T4.out.below hb) (bl B4.out hb))); have HU := Lib.hid (under_walk n c 17 c2 a b f hn6 hnc (by decide) k 0 (by omega) (by omega) y2 H2.out.1 hz); rw [show ((0 : Nat) : Int) = 0 from rfl] at HU; clear hrow hz hb)
      | (go_at_call 45; (with_reducible refine HU.out.mono ?_); rintro e y3 ⟨rfl, hb⟩; have H3 := Lib.hid (And.intro (H2.out.2.1.below hb) (bl H2.out.2.2 hb)); clear hb)
      | ((with_reducible refine wpList_store_row (P := Tryd.prog) (w := y3) ?_ 41 (.tmp 4) (.tmp 18) ?_ w.heap.size (tab 32 fun j => bv (und (ext n f) k 0 j)) ?_ ?_ 41 (tab 32 fun i => bv ((fun _ => 0#8) i)) ?_ (inf26 _) ?_ (one_bv _ _) ?_); (· exact rfl); (· exact rfl); (· exact rfl); (· exact rfl); (· exact H3.out.1); (· rw [tab_size, tab_size])))
    have hr : IsTab (World.setRow y3 w.heap.size (tab 32 fun j => bv (und (ext n f) k 0 j))) w.heap.size 41 32 fun j => bv (und (ext n f) k 0 j) := H3.out.1.row
    exact bodyPost_ret (Kc.results_cell_tmp rfl _ _ w.heap.size 41 _ (0, 0) _ rfl hr und26 rfl (inf26 _) (.int .i64 0) rfl) rfl ⟨rfl, below_setRow H3.out.2 (Nat.le_refl _) _⟩
  · have hro : rootOf d n f = zero 0 := by unfold rootOf; rw [if_neg h0]
    rw [hro]
    have hne : (wrong d n == 0) = false := by simpa using h0
    generalize wrong d n = k at *
    clear hro h0 hn
    go_enter Tryd.func21, Tryd.ntmps21
    go_wp2_with (first
      | (go_at_call 44; (with_reducible refine HCK.out.mono ?_); rintro e _ ⟨rfl, rfl⟩)
      | ((with_reducible refine wpList_store_row (P := Tryd.prog) (w := w.alloc (.cells zh 41)) ?_ 41 (.tmp 4) (.tmp 13) ?_ w.heap.size zh ?_ ?_ 41 zh (heap_alloc_last w _) HZI.out ?_ HZO.out ?_); (· exact rfl); (· exact rfl); (· exact rfl); (· exact rfl); (· exact rfl)))
    have hr2 : IsTab (World.setRow (w.alloc (.cells zh 41)) w.heap.size zh) w.heap.size 41 32 fun _ => bv 0#8 := by
      have hr := IsTab.row (g := fun _ => bv 0#8) T4.out
      rw [HZ.out] at hr
      exact hr
    exact bodyPost_ret (Kc.results_cell_tmp rfl _ _ w.heap.size 41 _ (0, 0) _ rfl hr2 und26 rfl (inf26 _) (.int .i64 k) rfl) rfl ⟨rfl, below_setRow B4.out (Nat.le_refl _) _⟩
end Mk
end Go.Proofs.YtjfpbponjhpdhaaDoor
/-
  mootlaw05.hashes. Own work.
-/
namespace Go.Proofs.YtjfpbponjhpdhaaDoor
open Go.RowKit
set_option linter.unusedVariables false
set_option linter.unusedSimpArgs false
namespace Mk
open Kc
structure Hh (W : World) (n k : Nat) (a : Option Addr) (f : Nat → Hx) (V : Value) (y : World) : Prop where
  hf : IsHs y a n f
  row : y.ownsRow W.heap.size 42 32 V k (flat k f)
  below : Below W.heap.size W y
theorem Hh.next {W y y' : World} {n k : Nat} {a : Option Addr} {f : Nat → Hx} {V : Value} (h : Hh W n k a f V y) (hb : Below y.heap.size y y') : Hh W n k a f V y' :=
  ⟨h.hf.below hb, (Kept.ofBelow (S := fun _ => False) hb).row h.row (fun _ _ h => h), bl h.below hb⟩
end Mk
end Go.Proofs.YtjfpbponjhpdhaaDoor
