/- Merged of Mf Arr Mj Apz Mp Ca. Own work. -/
import Derived.Test.YtnaamljflcgepaaDoorP09
import Derived.Test.YtnaamljflcgepaaDoorP01
import Derived.OpenShut
import Derived.WideShapes
import Derived.Deep.Slices
import Derived.Deep.Fields
import Derived.ChangeSame
import Derived.SizedLaws
import Derived.Test.YtnaamljflcgepaaDoorP04
import Derived.IntWalk
import Derived.WalkKit
import Derived.Laws.Bits64
namespace Go.Proofs.YtnaamljflcgepaaDoor
open Go.RowKit
set_option linter.unusedVariables false
set_option linter.unusedSimpArgs false
namespace Mk
open Kc
structure Fo (W : World) (q6 q8 n : Nat) (a : Option Addr) (p : Nat → Hx) (r : Hx) (y : World) : Prop where
  s8 : IsTab y q8 31 32 fun i => bv (r i)
  s6 : IsTab y q6 31 32 fun _ => bv 0#8
  hp : IsHs y a n p
  below : Below W.heap.size W y
  g6 : W.heap.size ≤ q6
  g8 : q6 < q8
  old : ∀ b o, a = some ⟨b, o, none⟩ → 0 < n → b < W.heap.size
theorem Fo.next {W y y' : World} {q6 q8 n : Nat} {a : Option Addr} {p : Nat → Hx} {r : Hx} (h : Fo W q6 q8 n a p r y) (hb : Below y.heap.size y y') : Fo W q6 q8 n a p r y' :=
  ⟨h.s8.below hb, h.s6.below hb, h.hp.below hb, bl h.below hb, h.g6, h.g8, h.old⟩
theorem IsHs.inHeap {w : World} {a : Option Addr} {n : Nat} {f : Nat → Hx} (h : IsHs w a n f) : ∀ b o, a = some ⟨b, o, none⟩ → 0 < n → b < w.heap.size := by
  intro b o ha hn
  obtain ⟨b', o', h1, h2⟩ := h.at hn
  rw [h1] at ha
  injection ha with ha
  injection ha with ha _
  subst ha
  exact Go.Proofs.YtnaamljflcgepaaDoor.inHeap (h2 0 0 hn (by decide))
theorem Fo.set {W y : World} {q6 q8 n : Nat} {a : Option Addr} {p : Nat → Hx} {r : Hx} (h : Fo W q6 q8 n a p r y) (x : Hx) : Fo W q6 q8 n a p x (y.setRow q8 (tab 32 fun j => bv (x j))) := by
  have h6 := h.g6
  have h8 := h.g8
  refine ⟨h.s8.row, h.s6.rowOther (by omega), ?_, below_setRow h.below (by omega) _, h.g6, h.g8, h.old⟩
  rcases h.hp with h1 | ⟨b, o, h1, h2⟩
  · exact .inl h1
  · rcases Nat.eq_zero_or_pos n with h0 | h0
    · exact .inl h0
    · refine .inr ⟨b, o, h1, fun k j hk hj => ?_⟩
      have hb := h.old b o h1 h0
      rw [cell_setRow_other _ _ _ _ (show b ≠ q8 by omega)]; exact h2 k j hk hj
set_option maxHeartbeats 2000000 in
set_option maxRecDepth 100000 in
theorem fold_ok (i : Nat) (x : Hx) (a : Option Addr) (n c : Nat) (p : Nat → Hx) (w : World) (hs : IsHs w a n p) (hnc : n ≤ c) (hn : n ≤ 16) (hi : i < 2 ^ n) (ht : Laid.KTab w) :
    Calls Tryd.prog 103 #[.int .i64 i, dv x, .slice a n c] w fun e w' => e = .returned (.tuple #[dv (fold i x p n), .nilIface]) ∧ Below w.heap.size w w' := by
  have HS := Lib.hid hs
  have HT := Lib.hid ht
  have h16 := two16 hn
  have hIi : (i : Int) < 2 ^ n := by
    have e : ((2 ^ n : Nat) : Int) = (2 : Int) ^ n := by rw [Int.natCast_pow]; rfl
    omega
  clear hs ht
  have z2 := zeroHash
  generalize hz : (tab 32 fun _ => bv 0#8) = zh at *
  have HZ := Lib.hid hz
  clear hz
  have hzl : zh.size = 32 := by rw [← HZ.out, tab_size]
  have HZL := Lib.hid hzl
  have hzi : (Tryd.prog.info? 31).map (·.size) = some zh.size := by rw [hzl]; exact infHh
  have HZI := Lib.hid hzi
  have hzo : zh.all (·.oneCell') = true := by rw [← HZ.out]; exact one_bv _ _
  have HZO := Lib.hid hzo
  clear hzi hzo hzl
  have hN : (n : Int) ≤ 16 := by omega
  have hIb : (i : Int) ≤ 65536 := by omega
  have hnc2 : (n : Int) ≤ 9223372036854775807 := by omega
  have HHI := Lib.hid (And.intro hi hIi)
  clear hi hIi
  unfold dv
  go_enter Tryd.func103, Tryd.ntmps103
  go_upto_region 4 with (first
    | (go_at_call 96; refine (place_yes (i : Int) n hn _ (by omega) HHI.out.2).mono ?_; rintro e _ ⟨rfl, rfl⟩)
    | ((with_reducible refine wpList_load_row (P := Tryd.prog) (w := (w.alloc (.cells (tab 32 fun i => bv (x i)) 31)).alloc (.cells zh 31)) ?_ 31 (.tmp 4) ?_ w.heap.size ?_ 31 (tab 32 fun i => bv (x i)) (0, 0) _ ?_ undH rfl (infH _) ?_); (· exact rfl); (· exact rfl); (· exact rfl); (· exact (IsTab.new w _ 32 _).alloc _))
    | ((with_reducible refine wpList_store_row (P := Tryd.prog) (w := ((w.alloc (.cells (tab 32 fun i => bv (x i)) 31)).alloc (.cells zh 31)).alloc (.cells zh 31)) ?_ 31 (.tmp 8) (.tmp 23) ?_ (w.heap.size + 1 + 1) (tab 32 fun i => bv (x i)) ?_ ?_ 31 zh ?_ (infH _) ?_ (one_bv _ _) ?_); (· exact rfl); (· exact rfl); (· exact rfl); (· exact rfl); (· have := heap_alloc_last ((w.alloc (.cells (tab 32 fun i => bv (x i)) 31)).alloc (.cells zh 31)) (.cells zh 31); simpa using this); (· rw [HZL.out, tab_size])))
  simp only [Act.put]
  have H1 : Hid (Fo w (w.heap.size + 1) (w.heap.size + 1 + 1) n a p (fold i x p 0) (World.setRow (((w.alloc (.cells (tab 32 fun i => bv (x i)) 31)).alloc (.cells zh 31)).alloc (.cells zh 31)) (w.heap.size + 1 + 1) (tab 32 fun i => bv (x i)))) := by
    have e1 : (w.alloc (.cells (tab 32 fun i => bv (x i)) 31)).heap.size = w.heap.size + 1 := by simp
    have e2 : ((w.alloc (.cells (tab 32 fun i => bv (x i)) 31)).alloc (.cells zh 31)).heap.size = w.heap.size + 1 + 1 := by simp
    have b3 : Below w.heap.size w (((w.alloc (.cells (tab 32 fun i => bv (x i)) 31)).alloc (.cells zh 31)).alloc (.cells zh 31)) := (((Below.refl _ _).alloc (Nat.le_refl _) _).alloc (by simp) _).alloc (by simp; omega) _
    have t6 := (put_new (w.alloc (.cells (tab 32 fun i => bv (x i)) 31)) x zh HZ.out).alloc (.cells zh 31)
    rw [e1] at t6
    have t8 := put_new ((w.alloc (.cells (tab 32 fun i => bv (x i)) 31)).alloc (.cells zh 31)) x zh HZ.out
    rw [e2] at t8
    have h0 : Fo w (w.heap.size + 1) (w.heap.size + 1 + 1) n a p (fun _ => 0#8) (((w.alloc (.cells (tab 32 fun i => bv (x i)) 31)).alloc (.cells zh 31)).alloc (.cells zh 31)) := ⟨t8, t6, HS.out.below b3, b3, by omega, by omega, HS.out.inHeap⟩
    exact Lib.hid (h0.set x)
  generalize World.setRow (((w.alloc (.cells (tab 32 fun i => bv (x i)) 31)).alloc (.cells zh 31)).alloc (.cells zh 31)) (w.heap.size + 1 + 1) (tab 32 fun i => bv (x i)) = y0 at *
  generalize w.heap.size + 1 + 1 = q8 at *
  generalize w.heap.size + 1 = q6 at *
  go_upto_region 5 with (fail)
  go_loopw [0, 26] (fun ti tc y => ∃ r m : Nat, r ≤ n ∧ tc = .int .i64 r ∧ ti = .int .i64 m ∧ Hid (m = i / 2 ^ r) ∧ Hid (Fo w q6 q8 n a p (fold i x p r) y)) (fun _ tc _ => n - (intOf tc).toNat)
  case atStart => exact ⟨0, i, Nat.zero_le _, rfl, rfl, Lib.hid (by simp), H1⟩
  case round =>
    obtain ⟨r, m, hr, rfl, rfl, hm, hp⟩ := hrel
    clear H1
    have hmi : m ≤ i := by rw [hm.out]; exact Nat.div_le_self _ _
    have hmb : (m : Int) ≤ 65536 := by omega
    clear hmi
    by_cases hlt : (r : Int) < (n : Int)
    · obtain ⟨b, o, hab, h5⟩ := hp.out.hp.at (show r < n by omega)
      subst hab
      have DP := Lib.hid (loadH h5 (k := r) (p := o + r * 32) (by omega) (by omega))
      clear h5
      go_upto_region 7 with (first
        | ((with_reducible refine wpList_loadE (P := Tryd.prog) (w := wr) (ty := 31) (x := .tmp 28) (p := .pointer (some ⟨b, o + r * 32, none⟩)) (v := dv (p r)) ?_ ?_ ?_ DP.out ?_); (· exact rfl); (· exact rfl); (· exact rfl))
        | ((with_reducible refine wpList_store_row (P := Tryd.prog) (w := wr.alloc (.cells zh 31)) ?_ 31 (.tmp 10) (.tmp 29) ?_ wr.heap.size (tab 32 fun i => bv (p r i)) ?_ ?_ 31 zh (heap_alloc_last wr _) (infH _) ?_ (one_bv _ _) ?_); (· exact rfl); (· exact rfl); (· exact rfl); (· exact rfl); (· rw [HZL.out, tab_size]); rw [World.setRow_alloc_new]; simp only [Act.put]))
      have hb7 : Below wr.heap.size wr (wr.alloc (.cells (tab 32 fun i => bv (p r i)) 31)) := (Below.refl _ _).alloc (Nat.le_refl _) _
      have H7 := Lib.hid (And.intro (hp.out.next hb7) (IsTab.new wr 31 32 fun i => bv (p r i)))
      clear hb7 DP hp
      generalize wr.alloc (.cells (tab 32 fun i => bv (p r i)) 31) = y1 at *
      generalize wr.heap.size = q10 at *
      have D8 := Lib.hid (load32h H7.out.1.s8)
      have D10 := Lib.hid (load32h H7.out.2)
      have hstep : fold i x p (r + 1) = if m % 2 = 0 then pr (fold i x p r) (p r) else pr (p r) (fold i x p r) := by rw [hm.out]; rfl
      have HST := Lib.hid hstep
      clear hstep
      generalize fold i x p r = z at *
      by_cases he : m % 2 = 0
      · have ht1 : ((m : Int) % 2 == 0) = true := by
          have : (m : Int) % 2 = 0 := by omega
          simpa using this
        have HPR := Lib.hid (pair_dv z (p r) y1 (ktab_below HT.out H7.out.1.below))
        have HX : Hid (fold i x p (r + 1) = pr z (p r)) := Lib.hid (by rw [HST.out, if_pos he])
        clear he HST
        go_upto_region 10 with (first
          | ((with_reducible refine wpList_loadE (P := Tryd.prog) (w := y1) (ty := 31) (x := .tmp 8) (p := .pointer (some ⟨q8, 0, none⟩)) (v := dv z) ?_ ?_ ?_ D8.out ?_); (· exact rfl); (· exact rfl); (· exact rfl))
          | ((with_reducible refine wpList_loadE (P := Tryd.prog) (w := y1) (ty := 31) (x := .tmp 10) (p := .pointer (some ⟨q10, 0, none⟩)) (v := dv (p r)) ?_ ?_ ?_ D10.out ?_); (· exact rfl); (· exact rfl); (· exact rfl))
          | (go_at_call 34; refine HPR.out.mono ?_; rintro e y2 ⟨rfl, hb⟩; have H8 := Lib.hid (H7.out.1.next hb); clear hb)
          | ((with_reducible refine wpList_store_row (P := Tryd.prog) (w := y2) ?_ 31 (.tmp 8) (.tmp 35) ?_ q8 (tab 32 fun j => bv (pr z (p r) j)) ?_ ?_ 31 (tab 32 fun i => bv (z i)) ?_ (infH _) ?_ (one_bv _ _) ?_); (· exact rfl); (· exact rfl); (· exact rfl); (· exact rfl); (· exact H8.out.s8); (· rw [tab_size, tab_size])))
        have H9 := Lib.hid (H8.out.set (pr z (p r)))
        generalize World.setRow y2 q8 (tab 32 fun j => bv (pr z (p r) j)) = y3 at *
        simp only [Act.put]
        go_wp2_with fail
        go_roundw
        case rel =>
          refine ⟨r + 1, m / 2, by omega, by go_num, ?_, Lib.hid ?_, by rw [HX.out]; exact H9⟩
          · show Value.int .i64 _ = .int .i64 _
            congr 1
          · rw [hm.out, Nat.pow_succ, Nat.div_div_eq_div_mul]
        case measure => simp [intOf]; omega
      · have ht1 : ((m : Int) % 2 == 0) = false := by
          have : ¬ (m : Int) % 2 = 0 := by omega
          simpa using this
        have HPR := Lib.hid (pair_dv (p r) z y1 (ktab_below HT.out H7.out.1.below))
        have HX : Hid (fold i x p (r + 1) = pr (p r) z) := Lib.hid (by rw [HST.out, if_neg he])
        clear he HST
        go_upto_region 10 with (first
          | ((with_reducible refine wpList_loadE (P := Tryd.prog) (w := y1) (ty := 31) (x := .tmp 8) (p := .pointer (some ⟨q8, 0, none⟩)) (v := dv z) ?_ ?_ ?_ D8.out ?_); (· exact rfl); (· exact rfl); (· exact rfl))
          | ((with_reducible refine wpList_loadE (P := Tryd.prog) (w := y1) (ty := 31) (x := .tmp 10) (p := .pointer (some ⟨q10, 0, none⟩)) (v := dv (p r)) ?_ ?_ ?_ D10.out ?_); (· exact rfl); (· exact rfl); (· exact rfl))
          | (go_at_call 34; refine HPR.out.mono ?_; rintro e y2 ⟨rfl, hb⟩; have H8 := Lib.hid (H7.out.1.next hb); clear hb)
          | ((with_reducible refine wpList_store_row (P := Tryd.prog) (w := y2) ?_ 31 (.tmp 8) (.tmp 38) ?_ q8 (tab 32 fun j => bv (pr (p r) z j)) ?_ ?_ 31 (tab 32 fun i => bv (z i)) ?_ (infH _) ?_ (one_bv _ _) ?_); (· exact rfl); (· exact rfl); (· exact rfl); (· exact rfl); (· exact H8.out.s8); (· rw [tab_size, tab_size])))
        have H9 := Lib.hid (H8.out.set (pr (p r) z))
        generalize World.setRow y2 q8 (tab 32 fun j => bv (pr (p r) z j)) = y3 at *
        simp only [Act.put]
        go_wp2_with fail
        go_roundw
        case rel =>
          refine ⟨r + 1, m / 2, by omega, by go_num, ?_, Lib.hid ?_, by rw [HX.out]; exact H9⟩
          · show Value.int .i64 _ = .int .i64 _
            congr 1
          · rw [hm.out, Nat.pow_succ, Nat.div_div_eq_div_mul]
        case measure => simp [intOf]; omega
    · obtain rfl : r = n := by omega
      have D8 := Lib.hid (load32h hp.out.s8)
      generalize hzz : fold i x p r = z at *
      have HZZ := Lib.hid hzz
      clear hzz
      go_wp2_with (first
        | ((with_reducible refine wpList_loadE (P := Tryd.prog) (w := wr) (ty := 31) (x := .tmp 8) (p := .pointer (some ⟨q8, 0, none⟩)) (v := dv z) ?_ ?_ ?_ D8.out ?_); (· exact rfl); (· exact rfl); (· exact rfl))
        | ((with_reducible refine wpList_store_row (P := Tryd.prog) (w := wr) ?_ 31 (.tmp 6) (.tmp 42) ?_ q6 (tab 32 fun j => bv (z j)) ?_ ?_ 31 (tab 32 fun i => bv ((fun _ => 0#8) i)) ?_ (infH _) ?_ (one_bv _ _) ?_); (· exact rfl); (· exact rfl); (· exact rfl); (· exact rfl); (· exact hp.out.s6); (· rw [tab_size, tab_size])))
      have hr : IsTab (World.setRow wr q6 (tab 32 fun j => bv (z j))) q6 31 32 fun j => bv (z j) := hp.out.s6.row
      exact bodyPost_ret (Kc.results_cell_tmp rfl _ _ q6 31 _ (0, 0) _ rfl hr undH rfl (infH _) .nilIface rfl) rfl ⟨by rw [HZZ.out], below_setRow hp.out.below hp.out.g6 _⟩
end Mk
end Go.Proofs.YtnaamljflcgepaaDoor
/-
  mootref05: Zero, Wrong, Zeros, Under. Own work.
-/
namespace Go.Proofs.YtnaamljflcgepaaDoor
open Go.RowKit
set_option linter.unusedVariables false
set_option linter.unusedSimpArgs false
namespace Mk
open Kc
theorem load32r {y : World} {q : Nat} {x : Hx} (h : IsTab y q 22 32 fun i => bv (x i)) : (Instr.loadAt 22 (.pointer (some ⟨q, 0, none⟩))).run Tryd.prog y = .ok (dv x) y :=
  loadR (at5_of (n := 1) (f := fun _ => x) (m := 32) (h.cong fun i hi => by unfold hc; rw [show i % 32 = i from by omega]) (by omega)) (k := 0) (by omega) rfl
/-! ## Under -/
structure Un (W : World) (q8 n m : Nat) (a b : Option Addr) (f : Nat → Hx) (y : World) : Prop where
  s8 : IsTab y q8 22 32 fun _ => bv 0#8
  hf : IsHs y a n f
  hz : IsHs y b m zero
  below : Below W.heap.size W y
  g8 : W.heap.size ≤ q8
theorem Un.next {W y y' : World} {q8 n m : Nat} {a b : Option Addr} {f : Nat → Hx} (h : Un W q8 n m a b f y) (hb : Below y.heap.size y y') : Un W q8 n m a b f y' :=
  ⟨h.s8.below hb, h.hf.below hb, h.hz.below hb, bl h.below hb, h.g8⟩
end Mk
end Go.Proofs.YtnaamljflcgepaaDoor
/-
  mootref05: Zero, Zeros, Root. Own work.
-/
namespace Go.Proofs.YtnaamljflcgepaaDoor
open Go.RowKit
set_option linter.unusedVariables false
set_option linter.unusedSimpArgs false
section
variable {P : Program}
theorem wp_build1 {op : Oper} {a : Act} {w : World} {K : Act → World → Prop} {Q : Exit → Act → World → Prop} (t : TypeId) (x : Operand) (ho : op.op = .buildSlice t 1 #[(0, x)]) (p v : Value) (hx : a.eval x = p) (w' : World) (hl : (Instr.buildSlice t 1 #[(0, p)]).run P w = .ok v w')
    (h : K (a.put op.dst v) w') : op.wp P a w K Q := by
  unfold Oper.wp execOp
  simp only [ho, List.map_toArray, List.map_cons, List.map_nil, hx]
  simp [hl]
  exact h
end
namespace Mk
open Kc
structure Zs (W : World) (k : Nat) (V : Value) (y : World) : Prop where
  row : y.ownsRow W.heap.size 22 32 V k (flat k zero)
  below : Below W.heap.size W y
theorem Zs.next {W y y' : World} {k : Nat} {V : Value} (h : Zs W k V y) (hb : Below y.heap.size y y') : Zs W k V y' :=
  ⟨(Kept.ofBelow (S := fun _ => False) hb).row h.row (fun _ _ h => h), bl h.below hb⟩
theorem Zs.drew {W y : World} {k : Nat} {V : Value} (h : Zs W k V y) : Zs W k V y.drew := ⟨h.row, h.below.drew⟩
end Mk
end Go.Proofs.YtnaamljflcgepaaDoor
/-
  mootlaw05.hashes. Own work.
-/
namespace Go.Proofs.YtnaamljflcgepaaDoor
open Go.RowKit
set_option linter.unusedVariables false
set_option linter.unusedSimpArgs false
namespace Mk
open Kc
structure Hh (W : World) (n k : Nat) (a : Option Addr) (f : Nat → Hx) (V : Value) (y : World) : Prop where
  hf : IsHs y a n f
  row : y.ownsRow W.heap.size 31 32 V k (flat k f)
  below : Below W.heap.size W y
theorem Hh.next {W y y' : World} {n k : Nat} {a : Option Addr} {f : Nat → Hx} {V : Value} (h : Hh W n k a f V y) (hb : Below y.heap.size y y') : Hh W n k a f V y' :=
  ⟨h.hf.below hb, (Kept.ofBelow (S := fun _ => False) hb).row h.row (fun _ _ h => h), bl h.below hb⟩
end Mk
end Go.Proofs.YtnaamljflcgepaaDoor
namespace Go.Proofs.YtnaamljflcgepaaDoor
open Go.ChangeShapes Go.WideShapes Go.RowKit
set_option linter.unusedVariables false
namespace Kc
section
variable {H : Type} {enc : TypeId × Value → H} {P : Program} {w : World} {r : Reach} {base base' : Nat} {spare : Nat → Bool} {held : Bool}
theorem arr_ints {t e : TypeId} {n : Nat} {k : IntKind} {v : Value} {d : DataW H} {ps : List MemPlace} (ht : P.underlying t = some (.array n e)) (he : P.underlying e = some (.int k)) (hC : P.cellsOf e = 1) (hn : P.cellsOf t = n)
    (hok : Value.okWide P w r base t v) (h : DataW.Trod enc P w base' spare held t v d ps) : ∃ f : Nat → Int, v = .agg (tab n fun i => .int k (f i)) ∧ ∀ i, i < n → (Lit.int k (f i)).wf = true := by
  simp only [Value.okWide, ht] at hok
  obtain ⟨cs, rfl, hsz, _⟩ := hok
  rw [hn] at hsz
  obtain ⟨fuel, hf⟩ := h
  obtain ⟨xs, m, _, _, hlen, hx, hel⟩ := DataW.trod_array ht (by simpa [Value.cells] using hf)
  have key : ∀ i, i < n → ∃ z, cs[i]? = some (.int k z) ∧ (Lit.int k z).wf = true := by
    intro i hi
    have e := hel i hi
    rw [hC, Nat.mul_one, List.getElem?_eq_getElem (by omega)] at e
    obtain ⟨z, e1, _, e3⟩ := DataW.trod_int he e
    refine ⟨z, ?_, e3⟩
    have h9 : ((cs.toList.drop i).take 1)[0]? = some (.int k z) := by rw [e1]; rfl
    simpa using h9
  refine ⟨fun i => match cs[i]? with | some (.int _ z) => z | _ => 0, ?_, fun i hi => ?_⟩
  · congr 1
    apply Array.ext_getElem?
    intro i
    by_cases hi : i < n
    · obtain ⟨z, hz, _⟩ := key i hi
      rw [tab_at _ hi]; simp only [hz]
    · rw [tab_out _ (by omega), Array.getElem?_eq_none (by omega)]
  · obtain ⟨z, hz, hw⟩ := key i hi
    simp only [hz]; exact hw
end
def bof (z : Int) : Bt := BitVec.ofInt 8 z
theorem Bv_bof {z : Int} (h0 : 0 ≤ z) (h1 : z < 256) : Bv (bof z) = z := by
  unfold Bv bof; rw [BitVec.toNat_ofInt]; omega
theorem wf_u8 {z : Int} (h : (Lit.int .u8 z).wf = true) : 0 ≤ z ∧ z < 256 := by
  have := bounds_u8 h; omega
theorem bytes_of {n : Nat} {f : Nat → Int} (h : ∀ i, i < n → (Lit.int .u8 (f i)).wf = true) : tab n (fun i => .int .u8 (f i)) = tab n fun i => bv (bof (f i)) :=
  tab_cong fun i hi => by show Value.int .u8 (f i) = .int .u8 (Bv (bof (f i))); rw [Bv_bof (wf_u8 (h i hi)).1 (wf_u8 (h i hi)).2]
end Kc
end Go.Proofs.YtnaamljflcgepaaDoor
namespace Go.Proofs.YtnaamljflcgepaaDoor
open Go.RowKit
set_option linter.unusedVariables false
set_option linter.unusedSimpArgs false
section
variable {P : Program}
end
namespace Mk
open Kc
/-- A digest that begins with a byte. -/
def one (b : Bt) : Hx := fun i => if i = 0 then b else 0#8
structure Fx (W : World) (q1 : Nat) (r : Hx) (y : World) : Prop where
  s1 : IsTab y q1 31 32 fun i => bv (r i)
  below : Below W.heap.size W y
theorem Fx.next {W y y' : World} {q1 : Nat} {r : Hx} (h : Fx W q1 r y) (hb : Below y.heap.size y y') : Fx W q1 r y' := ⟨h.s1.below hb, bl h.below hb⟩
end Mk
end Go.Proofs.YtnaamljflcgepaaDoor
/-
  A slice of digests that comes in. Own work, over the guide's lemmas of slices and arrays.
-/
namespace Go.Proofs.YtnaamljflcgepaaDoor
open Go.ChangeShapes Go.WideShapes Go.Deep Go.RowKit
set_option linter.unusedVariables false
namespace Mk
open Kc
section
variable {H : Type} {enc : TypeId × Value → H} {P : Program} {w : World} {base : Nat} {spare : Nat → Bool} {held : Bool}
end
end Mk
end Go.Proofs.YtnaamljflcgepaaDoor
namespace Go.Proofs.YtnaamljflcgepaaDoor
open Go.RowKit
set_option linter.unusedVariables false
set_option linter.unusedSimpArgs false
section
variable {P : Program}
/-- What a slice of the call's own grows by leaves the old memory. -/
theorem grown_below {w0 w w' : World} {v : Value} {T size n : Nat} {xs : List Value} (hb : Below w0.heap.size w0 w) (hown : w.ownsRow w0.heap.size T size v n xs) (hg : w.grownBy w' v.ownBlock) : Below w0.heap.size w0 w' := by
  have hk : Kept (fun k => v.ownBlock = some k) w w' := ⟨hg.os, hg.tape, hg.output, hg.size, fun k hk hn => hg.block k hk (fun e => hn e.symm)⟩
  exact ((Kept.ofBelow (S := fun k => v.ownBlock = some k) hb).trans hk (fun _ _ h => h)).below (Nat.le_refl _) (fun j hj e => (hown.lt j e).1)
end
end Go.Proofs.YtnaamljflcgepaaDoor
/-
  min and max of integers, as run equations for the walk. Own work.
-/
namespace Go.Proofs.YtnaamljflcgepaaDoor
namespace Mm
end Mm
end Go.Proofs.YtnaamljflcgepaaDoor
namespace Go.Proofs.YtnaamljflcgepaaDoor
open Go.RowKit
set_option linter.unusedVariables false
set_option linter.unusedSimpArgs false
namespace Mk
open Kc
/-- The state of the law: the leaf that came in, the leaves of the call's own, the path. -/
structure Mq (W : World) (q7 B N : Nat) (x : Hx) (f : Nat → Hx) (V9 : Value) (y : World) : Prop where
  s7 : IsTab y q7 22 32 fun i => bv (x i)
  row : y.ownsRow W.heap.size 31 32 V9 N (flat N f)
  top : ∀ k, V9.ownBlock = some k → q7 < k ∧ k < B
  below : Below W.heap.size W y
  g7 : W.heap.size ≤ q7
  b7 : q7 < B
  bB : B ≤ y.heap.size
theorem Mq.next {W y y' : World} {q7 B N : Nat} {x : Hx} {f : Nat → Hx} {V9 : Value} (h : Mq W q7 B N x f V9 y) (hb : Below y.heap.size y y') : Mq W q7 B N x f V9 y' :=
  ⟨h.s7.below hb, (Kept.ofBelow (S := fun _ => False) hb).row h.row (fun _ _ h => h), h.top, bl h.below hb, h.g7, h.b7, Nat.le_trans h.bB hb.size⟩
/-- With the path and the root. -/
structure Mr (W : World) (q7 B N D q12 : Nat) (x r : Hx) (f p : Nat → Hx) (V9 : Value) (a10 : Option Addr) (y : World) : Prop where
  mq : Mq W q7 B N x f V9 y
  hp : IsHs y a10 D p
  s12 : IsTab y q12 31 32 fun i => bv (r i)
  g12 : B ≤ q12
  ph : ∀ b o, a10 = some ⟨b, o, none⟩ → 0 < D → B ≤ b
theorem Mr.next {W y y' : World} {q7 B N D q12 : Nat} {x r : Hx} {f p : Nat → Hx} {V9 : Value} {a10 : Option Addr} (h : Mr W q7 B N D q12 x r f p V9 a10 y) (hb : Below y.heap.size y y') : Mr W q7 B N D q12 x r f p V9 a10 y' :=
  ⟨h.mq.next hb, h.hp.below hb, h.s12.below hb, h.g12, h.ph⟩
/-- The same, while the leaves grow: e is the leaves with noughts behind, M of them are there. -/
structure Ms (W : World) (q7 D q12 M : Nat) (x r : Hx) (e p : Nat → Hx) (V9 : Value) (a10 : Option Addr) (y : World) : Prop where
  s7 : IsTab y q7 22 32 fun i => bv (x i)
  s12 : IsTab y q12 31 32 fun i => bv (r i)
  hp : IsHs y a10 D p
  row : y.ownsRow W.heap.size 31 32 V9 M (flat M e)
  top : ∀ k, V9.ownBlock = some k → k ≠ q7 ∧ k ≠ q12 ∧ ∀ b o, a10 = some ⟨b, o, none⟩ → 0 < D → k ≠ b
  below : Below W.heap.size W y
  g7 : W.heap.size ≤ q7
  g12 : W.heap.size ≤ q12
theorem Ms.next {W y y' : World} {q7 D q12 M : Nat} {x r : Hx} {e p : Nat → Hx} {V9 : Value} {a10 : Option Addr} (h : Ms W q7 D q12 M x r e p V9 a10 y) (hb : Below y.heap.size y y') : Ms W q7 D q12 M x r e p V9 a10 y' :=
  ⟨h.s7.below hb, h.s12.below hb, h.hp.below hb, (Kept.ofBelow (S := fun _ => False) hb).row h.row (fun _ _ h => h), h.top, bl h.below hb, h.g7, h.g12⟩
theorem Ms.grown {W y y' : World} {q7 D q12 M : Nat} {x r : Hx} {e p : Nat → Hx} {V9 V' : Value} {a10 : Option Addr} (h : Ms W q7 D q12 M x r e p V9 a10 y) (hown : y'.ownsRow W.heap.size 31 32 V' (M + 1) (flat (M + 1) e)) (hg : y.grownBy y' V9.ownBlock)
    (hat : ∀ k, V'.ownBlock = some k → V9.ownBlock = some k ∨ k = y.heap.size) : Ms W q7 D q12 (M + 1) x r e p V' a10 y' := by
  have hk : Kept (fun k => V9.ownBlock = some k) y y' := ⟨hg.os, hg.tape, hg.output, hg.size, fun k hk hn => hg.block k hk (fun e => hn e.symm)⟩
  refine ⟨kept_tab h.s7 hk (fun e => (h.top _ e).1 rfl), kept_tab h.s12 hk (fun e => (h.top _ e).2.1 rfl), ?_, hown, fun k hk' => ?_, ((Kept.ofBelow (S := fun k => V9.ownBlock = some k) h.below).trans hk (fun _ _ h => h)).below (Nat.le_refl _) (fun j hj e => (h.row.lt j e).1), h.g7, h.g12⟩
  · rcases h.hp with h0 | ⟨b, o, h1, h2⟩
    · exact .inl h0
    · rcases Nat.eq_zero_or_pos D with h0 | h0
      · exact .inl h0
      · exact .inr ⟨b, o, h1, h2.keep fun i v hv => hk.cell (fun e => (h.top _ e).2.2 b o h1 h0 rfl) hv⟩
  · rcases hat k hk' with h1 | h1
    · exact h.top k h1
    · subst h1
      refine ⟨by have := h.s7.lt; omega, by have := h.s12.lt; omega, fun b o h1 h0 => ?_⟩
      have := h.hp.inHeap b o h1 h0
      omega
/-- Behind the store: what the law still reads. -/
structure Mz (W : World) (D q12 q14 q15 M : Nat) (r nx : Hx) (g p : Nat → Hx) (b9 : Nat) (a10 : Option Addr) (y : World) : Prop where
  s12 : IsTab y q12 31 32 fun i => bv (r i)
  s14 : IsTab y q14 31 32 fun i => bv (r i)
  s15 : IsTab y q15 31 32 fun i => bv (nx i)
  hs : IsHs y (some ⟨b9, 0, none⟩) M g
  hp : IsHs y a10 D p
  below : Below W.heap.size W y
theorem Mz.next {W y y' : World} {D q12 q14 q15 M : Nat} {r nx : Hx} {g p : Nat → Hx} {b9 : Nat} {a10 : Option Addr} (h : Mz W D q12 q14 q15 M r nx g p b9 a10 y) (hb : Below y.heap.size y y') : Mz W D q12 q14 q15 M r nx g p b9 a10 y' :=
  ⟨h.s12.below hb, h.s14.below hb, h.s15.below hb, h.hs.below hb, h.hp.below hb, bl h.below hb⟩
section
variable {ops : Array Oper} {rest : List Oper} {op : Oper} {a : Act} {w : World} {Q : Exit → Act → World → Prop}
theorem wpList_eqG (hw : Region.wanted op (yielded ops a.tmps) = true) (x y : Operand) (yt : TypeId) (z1 z2 : Hx) (ho : op.op = .binOp .eql 31 x y yt) (hx : a.eval x = dv z1) (hy : a.eval y = dv z2)
    (h : wpList Tryd.prog ops Q rest (a.put op.dst (.bool (same32 z1 z2))) w) : wpList Tryd.prog ops Q (op :: rest) a w :=
  wpList_step fun K hK => by
    rw [if_pos hw]
    unfold Oper.wp execOp
    simp only [ho, hx, hy]
    have e : (binOp .eql 31 (dv z1) (dv z2)).run Tryd.prog w = .ok (.bool (same32 z1 z2)) w := eql32 z1 z2 w
    simp [guardE, e]
    exact hK _ _ h
end
end Mk
end Go.Proofs.YtnaamljflcgepaaDoor
/-
  MerkleProves for what comes in. Own work.
-/
namespace Go.Proofs.YtnaamljflcgepaaDoor
open Go.RowKit
set_option linter.unusedVariables false
end Go.Proofs.YtnaamljflcgepaaDoor
/-
  mootlaw05: number, same; mootref05.Fold. Own work.
-/
namespace Go.Proofs.YtnaamljflcgepaaDoor
open Go.RowKit
set_option linter.unusedVariables false
set_option linter.unusedSimpArgs false
namespace Mk
open Kc
/-- The running value of mootref05.Fold, its result's box, the path. -/
structure Fr (W : World) (q4 q6 n : Nat) (a : Option Addr) (p : Nat → Hx) (r : Hx) (y : World) : Prop where
  s4 : IsTab y q4 22 32 fun i => bv (r i)
  s6 : IsTab y q6 22 32 fun _ => bv 0#8
  hp : IsHs y a n p
  below : Below W.heap.size W y
  g4 : W.heap.size ≤ q4
  g6 : q4 < q6
  old : ∀ b o, a = some ⟨b, o, none⟩ → 0 < n → b < W.heap.size
theorem Fr.next {W y y' : World} {q4 q6 n : Nat} {a : Option Addr} {p : Nat → Hx} {r : Hx} (h : Fr W q4 q6 n a p r y) (hb : Below y.heap.size y y') : Fr W q4 q6 n a p r y' :=
  ⟨h.s4.below hb, h.s6.below hb, h.hp.below hb, bl h.below hb, h.g4, h.g6, h.old⟩
theorem Fr.drew {W y : World} {q4 q6 n : Nat} {a : Option Addr} {p : Nat → Hx} {r : Hx} (h : Fr W q4 q6 n a p r y) : Fr W q4 q6 n a p r y.drew :=
  ⟨h.s4, h.s6, h.hp, h.below.drew, h.g4, h.g6, h.old⟩
set_option maxRecDepth 100000 in
theorem Fr.set {W y : World} {q4 q6 n : Nat} {a : Option Addr} {p : Nat → Hx} {r : Hx} (h : Fr W q4 q6 n a p r y) (x : Hx) : Fr W q4 q6 n a p x (y.setRow q4 (tab 32 fun j => bv (x j))) := by
  have h4 := h.g4
  have h6 := h.g6
  refine ⟨h.s4.row, h.s6.rowOther (by omega), ?_, below_setRow h.below (by omega) _, h.g4, h.g6, h.old⟩
  rcases h.hp with h1 | ⟨b, o, h1, h2⟩
  · exact .inl h1
  · rcases Nat.eq_zero_or_pos n with h0 | h0
    · exact .inl h0
    · refine .inr ⟨b, o, h1, fun k j hk hj => ?_⟩
      have hb := h.old b o h1 h0
      rw [cell_setRow_other _ _ _ _ (show b ≠ q4 by omega)]; exact h2 k j hk hj
set_option maxRecDepth 100000 in
theorem Fr.load {W y : World} {q4 q6 n : Nat} {b o : Nat} {p : Nat → Hx} {r : Hx} (h : Fr W q4 q6 n (some ⟨b, o, none⟩) p r y) {k : Nat} (hk : k < n) : (Instr.loadAt 22 (.pointer (some ⟨b, o + k * 32, none⟩))).run Tryd.prog y = .ok (dv (p k)) y := by
  obtain ⟨b3, o3, e5, h5⟩ := h.hp.at hk
  injection e5 with e5
  injection e5 with e6 e7
  subst e6 e7
  exact loadR h5 (k := k) (p := o + k * 32) hk (by omega)
theorem run_neq_tab {P : Program} (w : World) (t e : TypeId) (n : Nat) (k : IntKind) (ht : P.underlying t = some (.array n e)) (he : P.underlying e = some (.int k)) (hsz : ∀ w, (sizeOf e).run P w = .ok 1 w) (f g : Nat → Int) :
    (binOp .neq t (.agg (tab n fun i => .int k (f i))) (.agg (tab n fun i => .int k (g i)))).run P w = .ok (.bool (!((List.range n).all fun i => f i == g i))) w := by
  rw [run_neq_struct, run_equal_tab w 9998 t e n k ht he hsz]; rfl
/-- Two lists of digests in a memory that grows. -/
structure Two (W : World) (a b : Option Addr) (n : Nat) (f : Nat → Hx) (y : World) : Prop where
  ha : IsHs y a n f
  hb : IsHs y b n f
  below : Below W.heap.size W y
theorem Two.drew {W y : World} {a b : Option Addr} {n : Nat} {f : Nat → Hx} (h : Two W a b n f y) : Two W a b n f y.drew := ⟨h.ha, h.hb, h.below.drew⟩
/-- What mootref05.Path gathers. -/
structure Pg (W : World) (g : Nat → Hx) (k : Nat) (V : Value) (y : World) : Prop where
  row : y.ownsRow W.heap.size 22 32 V k (flat k g)
  below : Below W.heap.size W y
theorem Pg.next {W y y' : World} {g : Nat → Hx} {k : Nat} {V : Value} (h : Pg W g k V y) (hb : Below y.heap.size y y') : Pg W g k V y' :=
  ⟨(Kept.ofBelow (S := fun _ => False) hb).row h.row (fun _ _ h => h), bl h.below hb⟩
end Mk
end Go.Proofs.YtnaamljflcgepaaDoor
/-
  mootref05.Path for whatever comes in; what a law keeps: rows of digests, boxed digests. Own work.
-/
namespace Go.Proofs.YtnaamljflcgepaaDoor
open Go.RowKit
set_option linter.unusedVariables false
set_option linter.unusedSimpArgs false
namespace Mk
open Kc
/-- Rows of digests, boxed digests, the old memory. -/
structure Mb (W : World) (rs : List (Option Addr × Nat × (Nat → Hx))) (l : List (Nat × Nat × Hx)) (y : World) : Prop where
  hs : ∀ r ∈ rs, IsHs y r.1 r.2.1 r.2.2
  ts : ∀ p ∈ l, IsTab y p.1 p.2.1 32 fun i => bv (p.2.2 i)
  below : Below W.heap.size W y
section
variable {W y y' : World} {rs : List (Option Addr × Nat × (Nat → Hx))} {l : List (Nat × Nat × Hx)}
theorem Mb.next (h : Mb W rs l y) (hb : Below y.heap.size y y') : Mb W rs l y' :=
  ⟨fun r hr => (h.hs r hr).below hb, fun p hp => (h.ts p hp).below hb, bl h.below hb⟩
theorem Mb.drew (h : Mb W rs l y) : Mb W rs l y.drew := ⟨h.hs, h.ts, h.below.drew⟩
theorem Mb.row {a : Option Addr} {n : Nat} {f : Nat → Hx} (h : Mb W rs l y) (hr : IsHs y a n f) : Mb W ((a, n, f) :: rs) l y :=
  ⟨fun r hm => (List.mem_cons.1 hm).elim (fun e => by rw [e]; exact hr) (h.hs r), h.ts, h.below⟩
theorem Mb.add (h : Mb W rs l y) (T : Nat) (x : Hx) : Mb W rs ((y.heap.size, T, x) :: l) (y.alloc (.cells (tab 32 fun i => bv (x i)) T)) := by
  have hb : Below y.heap.size y (y.alloc (.cells (tab 32 fun i => bv (x i)) T)) := (Below.refl _ _).alloc (Nat.le_refl _) _
  refine ⟨fun r hr => (h.hs r hr).below hb, fun p hp => ?_, bl h.below hb⟩
  rcases List.mem_cons.1 hp with rfl | hp
  · exact IsTab.new y T 32 fun i => bv (x i)
  · exact (h.ts p hp).below hb
theorem Mb.loadH {q : Nat} {x : Hx} (h : Mb W rs l y) (hp : (q, 31, x) ∈ l) : (Instr.loadAt 31 (.pointer (some ⟨q, 0, none⟩))).run Tryd.prog y = .ok (dv x) y :=
  load32h (h.ts (q, 31, x) hp)
theorem Mb.loadR {q : Nat} {x : Hx} (h : Mb W rs l y) (hp : (q, 22, x) ∈ l) : (Instr.loadAt 22 (.pointer (some ⟨q, 0, none⟩))).run Tryd.prog y = .ok (dv x) y :=
  load32r (h.ts (q, 22, x) hp)
theorem Mb.at {a : Option Addr} {n : Nat} {f : Nat → Hx} (h : Mb W rs l y) (hr : (a, n, f) ∈ rs) : IsHs y a n f := h.hs _ hr
end
section
variable {ops : Array Oper} {rest : List Oper} {op : Oper} {a : Act} {w : World} {Q : Exit → Act → World → Prop}
end
end Mk
end Go.Proofs.YtnaamljflcgepaaDoor
namespace Go.Proofs.YtnaamljflcgepaaDoor
open Go.RowKit
set_option linter.unusedVariables false
set_option linter.unusedSimpArgs false
namespace Co
open Kc Mk Vm
theorem buildH0 (w : World) : (Instr.build 31 #[]).run Tryd.prog w = .ok (.agg (tab 32 fun _ => bv 0#8)) w := by kernel_rfl
theorem ba (w : World) (o : Obj) : Below w.heap.size w (w.alloc o) := (Below.refl _ _).alloc (Nat.le_refl _) _
set_option maxHeartbeats 2000000 in
set_option maxRecDepth 100000 in
theorem leaf_walk (w : World) (v : Nat) (hv : v < 18446744073709551616) :
    Calls Tryd.prog 44 #[.int .u64 v] w fun e w' => e = .returned (dv (lfX v)) ∧ Below w.heap.size w w' := by
  have HV := Lib.hid hv
  clear hv
  have z2 := zeroHash
  have HBH := Lib.hid (fun u : World => buildH0 u)
  generalize hz : (tab 32 fun _ => bv 0#8) = zh at *
  have HZ := Lib.hid hz
  clear hz
  have HZI : Hid ((Tryd.prog.info? 31).map (·.size) = some zh.size ∧ zh.all (·.oneCell') = true ∧ zh.size = 32) := Lib.hid ⟨by rw [← HZ.out]; exact infH _, by rw [← HZ.out]; exact one_bv _ _, by rw [← HZ.out, tab_size]⟩
  go_enter Tryd.func44, Tryd.ntmps44
  go_upto_region 1 with (fail)
  have H0 : Hid (IsTab (w.alloc (.cells zh 31)) w.heap.size 31 32 (fun _ => bv 0#8) ∧ Below w.heap.size w (w.alloc (.cells zh 31)) ∧ w.heap.size < (w.alloc (.cells zh 31)).heap.size) := Lib.hid ⟨put_new w (fun _ => 0#8) zh HZ.out, ba _ _, by simp⟩
  generalize w.alloc (.cells zh 31) = y0 at *
  generalize hq : w.heap.size = q0 at *
  have HQ := Lib.hid hq
  clear hq
  go_upto_region 2 with (first
    | ((with_reducible refine wpList_buildM (P := Tryd.prog) (w := y0) ?_ 31 ?_ (.agg zh) (HBH.out y0) ?_); (· exact rfl); (· exact rfl))
    | ((with_reducible refine wpList_store_row (P := Tryd.prog) (w := y0.alloc (.cells zh 31)) ?_ 31 (.tmp 3) (.tmp 4) ?_ y0.heap.size zh ?_ ?_ 31 zh (heap_alloc_last y0 _) HZI.out.1 ?_ HZI.out.2.1 ?_); (· exact rfl); (· exact rfl); (· exact rfl); (· exact rfl); (· exact rfl); rw [World.setRow_alloc_new]; simp only [Act.put]))
  have H1 : Hid (IsTab (y0.alloc (.cells zh 31)) y0.heap.size 31 32 (fun _ => bv 0#8) ∧ IsTab (y0.alloc (.cells zh 31)) q0 31 32 (fun _ => bv 0#8) ∧ Below q0 w (y0.alloc (.cells zh 31)) ∧ q0 < y0.heap.size) := Lib.hid ⟨put_new y0 (fun _ => 0#8) zh HZ.out, H0.out.1.alloc _, H0.out.2.1.alloc (by have := H0.out.2.2; omega) _, H0.out.2.2⟩
  clear H0
  generalize y0.alloc (.cells zh 31) = y1 at *
  generalize y0.heap.size = q1 at *
  have s1 := slHA q1
  have hp := Rl.put_walk y1 q1 31 32 32 (fun _ => bv 0#8) 3 v H1.out.1 (by decide) (by decide) HV.out
  rw [show ((3 : Nat) : Int) = 3 from rfl] at hp
  have HP := Lib.hid hp
  clear hp
  go_upto_region 3 with (go_at_call 50; (with_reducible refine HP.out.mono ?_); rintro e y2 ⟨he, hp⟩; obtain rfl : e = _ := he; have HP2 := Lib.hid hp; clear hp HP)
  clear s1
  have H2 : Hid (IsTab y2 q1 31 32 (fun j => bv (lfX v j)) ∧ IsTab y2 q0 31 32 (fun _ => bv 0#8) ∧ Below q0 w y2) := Lib.hid ⟨HP2.out.row.cong fun j _ => put_lf v j, (HP2.out.kept.block q0 H1.out.2.1.lt (by have := H1.out.2.2.2; omega)).trans H1.out.2.1, H1.out.2.2.1.trans (HP2.out.kept.below (by have h1 := H1.out.2.2.1.size; have h2 := H1.out.2.2.2; have h3 := H1.out.1.lt; omega) fun k _ hk => by rw [hk]; exact Nat.le_of_lt H1.out.2.2.2)⟩
  clear H1 HP2
  have D := Lib.hid (load32h H2.out.1)
  go_wp2_with (first
    | ((with_reducible refine wpList_loadE (P := Tryd.prog) (w := y2) (ty := 31) (x := .tmp 3) (p := .pointer (some ⟨q1, 0, none⟩)) (v := dv (lfX v)) ?_ ?_ ?_ D.out ?_); (· exact rfl); (· exact rfl); (· exact rfl))
    | ((with_reducible refine wpList_store_row (P := Tryd.prog) (w := y2) ?_ 31 (.tmp 2) (.tmp 8) ?_ q0 (tab 32 fun i => bv (lfX v i)) ?_ ?_ 31 (tab 32 fun _ => bv 0#8) ?_ (infH _) ?_ (one_bv _ _) ?_); (· exact rfl); (· exact rfl); (· exact rfl); (· exact rfl); (· exact H2.out.2.1); (· rw [tab_size, tab_size])))
  have hr : IsTab (World.setRow y2 q0 (tab 32 fun j => bv (lfX v j))) q0 31 32 fun j => bv (lfX v j) := H2.out.2.1.row
  exact bodyPost_ret (results_cell_row rfl _ _ q0 31 _ (0, 0) _ rfl hr undH rfl (infH _)) rfl ⟨rfl, by rw [HQ.out]; exact below_setRow H2.out.2.2 (Nat.le_refl _) _⟩
theorem made_hc (n : Nat) : madeCells (dv fun _ => 0#8).cells (n * 32) = tab (32 * n) (hc fun _ => Mk.zero 0) := by
  have e : (dv fun _ => 0#8).cells = tab 32 fun _ => bv 0#8 := rfl
  rw [e]
  apply Array.ext
  · rw [size_madeCells, tab_size]; omega
  · intro j h1 h2
    have h3 : j % 32 < 32 := Nat.mod_lt _ (by decide)
    have h4 := tab_at (n := 32) (fun _ => bv 0#8) h3
    have h5 : (tab 32 fun _ => bv 0#8)[j % 32]! = bv 0#8 := by
      rw [Array.getElem!_eq_getD, Array.getD_eq_getD_getElem?, h4]
      rfl
    simp [madeCells, tab_size, h5]
    simp [tab, hc]
    rfl
theorem mkH (n : Nat) (hn : n ≤ 8192) (w : World) : (Instr.makeSlice 54 (.int .i64 (n : Int)) (.int .i64 (n : Int))).run Tryd.prog w = .ok (.slice (some ⟨w.heap.size, 0, none⟩) n n) (w.alloc (.cells (tab (32 * n) (hc fun _ => Mk.zero 0)) 31)) := by
  obtain ⟨i, h1, h2, h3, h4⟩ := infHs
  have hr := run_make (P := Tryd.prog) w 54 31 i (dv fun _ => 0#8) undHs h1 h2 .i64 .i64 n n (by omega) (Int.le_refl _) (by rw [h4]; omega) (by omega)
  simp only [Int.toNat_natCast, h3] at hr
  rw [made_hc] at hr
  exact hr
theorem lv_hc {w : World} {q T n : Nat} {f : Nat → Hx} (h : IsTab w q T (32 * n) (hc f)) : Lv w q T n f := ⟨32 * n, hc f, h, Nat.le_refl _, fun k j hk hj => by
  unfold hc
  rw [show (32 * k + j) / 32 = k from by omega, show (32 * k + j) % 32 = j from by omega]⟩
/-- What leavesOf's loop keeps. -/
structure Lp (W : World) (q b : Nat) (M : Mac) (j : Nat) (y : World) : Prop where
  lv : Lv y q 31 8192 fun k => if k < j then lfX (M.mem k) else Mk.zero 0
  mac : IsMac y b M
  below : Below W.heap.size W y
  ge : W.heap.size ≤ q
  lt : b < W.heap.size
theorem lp_step (M : Mac) (j : Nat) : (fun i => if i = j then lfX (M.mem j) else if i < j then lfX (M.mem i) else Mk.zero 0) = fun k => if k < j + 1 then lfX (M.mem k) else Mk.zero 0 := by
  funext k
  by_cases h : k = j
  · subst h; rw [if_pos rfl, if_pos (by omega)]
  · rw [if_neg h]
    by_cases h2 : k < j
    · rw [if_pos h2, if_pos (by omega)]
    · rw [if_neg h2, if_neg (by omega)]
set_option maxHeartbeats 2000000 in
set_option maxRecDepth 100000 in
theorem leaves_walk (w : World) (b : Nat) (M : Mac) (hm : IsMac w b M) (hok : ∀ i, M.mem i < 18446744073709551616) :
    Calls Tryd.prog 27 #[.pointer (some ⟨b, 0, none⟩)] w fun e w' => ∃ q, e = .returned (.slice (some ⟨q, 0, none⟩) 8192 8192) ∧ IsHs w' (some ⟨q, 0, none⟩) 8192 (mlf M) ∧ w.heap.size ≤ q ∧ Below w.heap.size w w' := by
  have HO := Lib.hid hok
  have hmk := mkH 8192 (Nat.le_refl _) w
  have H0 : Hid (Lp w w.heap.size b M 0 (w.alloc (.cells (tab (32 * 8192) (hc fun _ => Mk.zero 0)) 31))) := Lib.hid ⟨lv_hc (IsTab.new w 31 (32 * 8192) _), hm.below (ba _ _), ba _ _, Nat.le_refl _, hm.lt⟩
  generalize hw1 : w.alloc (.cells (tab (32 * 8192) (hc fun _ => Mk.zero 0)) 31) = w1 at *
  clear hm hok hw1
  generalize hq : w.heap.size = q at *
  have HQ := Lib.hid hq
  clear hq
  rw [show ((8192 : Nat) : Int) = 8192 from rfl] at hmk
  go_enter Tryd.func27, Tryd.ntmps27
  go_upto_region 3 with (fail)
  clear hmk
  go_loopw [6] (fun t y => ∃ j : Nat, t = .int .i64 j ∧ Hid (j ≤ 8192 ∧ Lp w q b M j y)) (fun t _ => 8192 - (intOf t).toNat)
  case atStart => exact ⟨0, rfl, Lib.hid ⟨Nat.zero_le _, H0.out⟩⟩
  case round =>
    obtain ⟨j, rfl, hp⟩ := hrel
    have HP := Lib.hid hp.out
    clear hp H0
    by_cases hlt : (j : Int) < 8192
    · have hlt' : j < 8192 := by omega
      have kc := HP.out.2.mac.mem hlt'
      have HJ : Hid (j + 1 ≤ 8192 ∧ wrap64 ((j : Int) + 1) = ((j + 1 : Nat) : Int)) := Lib.hid ⟨hlt', by unfold wrap64; omega⟩
      have HLF := Lib.hid (leaf_walk wr (M.mem j) (HO.out j))
      clear hlt'
      go_upto_region 6 with (first
        | (go_at_call 44; (with_reducible refine HLF.out.mono ?_); rintro e y1 ⟨he, hb⟩; obtain rfl : e = _ := he; have HB1 := Lib.hid hb; have HN1 : Hid (Lp w q b M j y1) := Lib.hid ⟨HP.out.2.lv.below hb, HP.out.2.mac.below hb, bl HP.out.2.below hb, HP.out.2.ge, HP.out.2.lt⟩; have HTH := Lib.hid (HN1.out.lv.there (k := j) (p := j * 32) (n := 32) HJ.out.1 (by omega) rfl); clear hb HLF)
        | ((with_reducible refine wpList_store_mid (P := Tryd.prog) (w := y1) (ty := 31) (x := .tmp 18) (y := .tmp 17) (b := q) (o := j * 32) (cells := tab 32 fun i => bv (lfX (M.mem j) i)) ?_ ?_ ?_ ?_ ?_ (infH _) (one_bv _ _) ?_); (· exact rfl); (· exact rfl); (· exact rfl); (· exact rfl); (· rw [tab_size]; exact HTH.out)))
      have HN2 : Hid (Lp w q b M (j + 1) (y1.setCells q (j * 32) (tab 32 fun i => bv (lfX (M.mem j) i)).toList)) := Lib.hid ⟨by
          have h := HN1.out.lv.set j (lfX (M.mem j)) (p := j * 32) (by omega)
          rw [lp_step] at h; exact h,
        IsTab.cellsOther (w := y1) (by have h1 := HN1.out.ge; have h2 := HN1.out.lt; omega) _ _ _ HN1.out.mac, below_setCells HN1.out.ge _ _ _ HN1.out.below, HN1.out.ge, HN1.out.lt⟩
      generalize y1.setCells q (j * 32) (tab 32 fun i => bv (lfX (M.mem j) i)).toList = y2 at *
      clear kc HN1 HTH HP
      have hw1 := HJ.out.2
      go_wp2_with (fail)
      go_roundw
      case rel => exact ⟨j + 1, by go_num, Lib.hid ⟨HJ.out.1, HN2.out⟩⟩
      case measure =>
        have := HJ.out.1
        clear hw1
        simp [intOf]; omega
    · obtain rfl : j = 8192 := by have := HP.out.1; omega
      go_wp2_with (fail)
      exact bodyPost_ret (v := .slice (some ⟨q, 0, none⟩) 8192 8192) (by simp [results, Tryd.results27, go_sem]) rfl ⟨q, rfl, .inr ⟨q, 0, rfl, (HP.out.2.lv.cong fun k hk => by rw [if_pos hk]; rfl).at5⟩, Nat.le_refl _, HQ.out ▸ HP.out.2.below⟩
set_option maxHeartbeats 2000000 in
set_option maxRecDepth 100000 in
theorem Root_walk (w : World) (b : Nat) (M : Mac) (hm : IsMac w b M) (hok : ∀ i, M.mem i < 18446744073709551616) (ht : Laid.KTab w) :
    Calls Tryd.prog 15 #[.pointer (some ⟨b, 0, none⟩)] w fun e w' => e = .returned (.tuple #[dv (mroot M), .nilIface]) ∧ Below w.heap.size w w' := by
  have HM := Lib.hid (And.intro hm (And.intro hok ht))
  clear hm hok ht
  have z2 := zeroHash
  have HBH := Lib.hid (fun u : World => buildH0 u)
  generalize hz : (tab 32 fun _ => bv 0#8) = zh at *
  have HZ := Lib.hid hz
  clear hz
  have HZI : Hid ((Tryd.prog.info? 31).map (·.size) = some zh.size ∧ zh.all (·.oneCell') = true ∧ zh.size = 32) := Lib.hid ⟨by rw [← HZ.out]; exact infH _, by rw [← HZ.out]; exact one_bv _ _, by rw [← HZ.out, tab_size]⟩
  go_enter Tryd.func15, Tryd.ntmps15
  go_upto_region 3 with (fail)
  have H0 : Hid (IsTab (w.alloc (.cells zh 31)) w.heap.size 31 32 (fun _ => bv 0#8) ∧ Below w.heap.size w (w.alloc (.cells zh 31))) := Lib.hid ⟨put_new w (fun _ => 0#8) zh HZ.out, ba _ _⟩
  generalize w.alloc (.cells zh 31) = y0 at *
  have HL := Lib.hid (leaves_walk y0 b M (HM.out.1.below H0.out.2) HM.out.2.1)
  generalize hq : w.heap.size = q0 at *
  have HQ := Lib.hid hq
  clear hq
  go_wp2_with (first
    | (go_at_call 27; (with_reducible refine HL.out.mono ?_); rintro e y1 ⟨q, he, hs, hge, hb⟩; obtain rfl : e = _ := he; have HB1 := Lib.hid hb; have hra := root_any 13 (some ⟨q, 0, none⟩) 8192 8192 (mlf M) y1 hs (fun h => by cases h) (Nat.le_refl _) (by decide) (ktab_below HM.out.2.2 (by rw [HQ.out]; exact H0.out.2.trans (hb.mono (by have := H0.out.2.size; have := HQ.out; omega)))); have HR := Lib.hid ((rootOf_mem 8192 (Nat.le_refl _) (mlf M)) ▸ (wrong_mem 8192 (Nat.le_refl _)) ▸ hra); clear hs hge hb HL hra)
    | (go_at_call 26; refine HR.out.mono ?_; rintro e y2 ⟨he, hb⟩; obtain rfl : e = _ := he; have HB2 := Lib.hid hb; have HT2 := Lib.hid ((H0.out.1.below HB1.out).below hb); clear hb HR)
    | ((with_reducible refine wpList_store_row (P := Tryd.prog) (w := y2) ?_ 31 (.tmp 2) (.tmp 11) ?_ q0 (tab 32 fun i => bv (und (ext 8192 (mlf M)) 13 0 i)) ?_ ?_ 31 (tab 32 fun _ => bv 0#8) ?_ (infH _) ?_ (one_bv _ _) ?_); (· exact rfl); (· exact rfl); (· exact rfl); (· exact rfl); (· exact HT2.out); (· rw [tab_size, tab_size])))
  have hr : IsTab (World.setRow y2 q0 (tab 32 fun j => bv (und (ext 8192 (mlf M)) 13 0 j))) q0 31 32 fun j => bv (und (ext 8192 (mlf M)) 13 0 j) := HT2.out.row
  exact bodyPost_ret (Kc.results_cell_tmp rfl _ _ q0 31 _ (0, 0) _ rfl hr undH rfl (infH _) .nilIface rfl) rfl ⟨rfl, by rw [HQ.out]; exact below_setRow ((H0.out.2.trans (HB1.out.mono (by have := H0.out.2.size; have := HQ.out; omega))).trans (HB2.out.mono (by have := H0.out.2.size; have := HB1.out.size; have := HQ.out; omega))) (Nat.le_refl _) _⟩
end Co
end Go.Proofs.YtnaamljflcgepaaDoor
