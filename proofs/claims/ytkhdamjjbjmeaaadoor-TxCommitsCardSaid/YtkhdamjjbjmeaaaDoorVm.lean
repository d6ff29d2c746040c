/-
  mootref04.Commit. Own work.
-/
import Derived.Test.YtkhdamjjbjmeaaaDoorVk
import Derived.Test.YtkhdamjjbjmeaaaDoorOrd
import Derived.Test.YtkhdamjjbjmeaaaDoorR2
import Derived.Test.YtkhdamjjbjmeaaaDoorVf
import Derived.Test.YtkhdamjjbjmeaaaDoorQin
namespace Go.Proofs.YtkhdamjjbjmeaaaDoor
open Go.ChangeShapes Go.WideShapes Go.Deep Go.RowKit
set_option linter.unusedVariables false
set_option linter.unusedSimpArgs false
section
variable {P : Program}
theorem wp_build1' {op : Oper} {a : Act} {w : World} {K : Act → World → Prop} {Q : Exit → Act → World → Prop} (t : TypeId) (x : Operand) (ho : op.op = .buildSlice t 1 #[(0, x)]) (p v : Value) (hx : a.eval x = p) (w' : World) (hl : (Instr.buildSlice t 1 #[(0, p)]).run P w = .ok v w')
    (h : K (a.put op.dst v) w') : op.wp P a w K Q := by
  unfold Oper.wp execOp
  simp only [ho, List.map_toArray, List.map_cons, List.map_nil, hx]
  simp [hl]
  exact h
end
namespace Mk
open Kc
theorem loadR {w : World} {b o n : Nat} {f : Nat → Hx} (h : At5 w b o n f) {k p : Nat} (hk : k < n) (hp : p = o + 32 * k) : (Instr.loadAt 23 (.pointer (some ⟨b, p, none⟩))).run Tryd.prog w = .ok (dv (f k)) w := by
  subst hp
  refine run_loadAt_mid w b (o + 32 * k) _ ((List.range 32).map fun i => bv (f k i)) _ (fun j v hv => ?_) und26 rfl (by rw [List.length_map, List.length_range]; exact infR)
  obtain ⟨hj, rfl⟩ := List.getElem?_eq_some_iff.1 hv
  simp only [List.length_map, List.length_range] at hj
  simpa using h k j hk hj
theorem rpair_dv (x y : Hx) (w : World) : Calls Tryd.prog 44 #[dv x, dv y] w fun e w' => e = .returned (dv (pr x y)) ∧ Below w.heap.size w w' := rpair_walk x y w
theorem zcells : (dv fun _ => 0#8).cells.size = 32 := by show (tab 32 _).size = 32; rw [tab_size]
theorem flat1 (x : Hx) : flat 1 (fun _ => x) = (tab 32 fun i => bv (x i)).toList := by
  unfold flat tab
  simp only [Nat.mul_one]
  exact List.map_congr_left fun i hi => by rw [Nat.mod_eq_of_lt (by simpa using hi)]
theorem flat_step (h : Nat) (g : Nat → Hx) : flat h g ++ flat 1 (fun _ => g h) = flat (h + 1) g := by
  rw [flat_append]
  exact flat_cong fun k hk => by
    split
    · rfl
    · rw [show k = h from by omega]
theorem buildR (x : Hx) (w : World) : (Instr.buildSlice 102 1 #[(0, dv x)]).run Tryd.prog w = .ok (.slice (some ⟨w.heap.size, 0, none⟩) 1 1) (w.alloc (.cells (tab 32 fun i => bv (x i)) 23)) := by kernel_rfl
theorem undRs : Tryd.prog.underlying 102 = some (.slice 23) := by kernel_rfl
theorem infRs : ∃ i, Tryd.prog.info? 23 = some i ∧ i.zero = some (dv fun _ => 0#8) ∧ i.size = 32 ∧ i.bytes = 32 :=
  ⟨(Tryd.prog.info? 23).get (by kernel_rfl), by kernel_rfl, by kernel_rfl, by kernel_rfl, by kernel_rfl⟩
theorem src1R (w : World) (x : Hx) : ((some ⟨w.heap.size, 0, none⟩ : Option Addr) = none ∧ 1 = 0 ∧ 1 = 0 ∧ flat 1 (fun _ => x) = []) ∨ ∃ ad, (some ⟨w.heap.size, 0, none⟩ : Option Addr) = some ad ∧ (flat 1 fun _ => x).length = 1 * 32 ∧ ∀ j u, (flat 1 fun _ => x)[j]? = some u → (w.alloc (.cells (tab 32 fun i => bv (x i)) 23)).cell? (ad.add j) = some u :=
  .inr ⟨_, rfl, flat_len _ _, fun j u hu => by
    rw [flat1] at hu
    rw [add_at, Nat.zero_add, cell_of_row _ _ _ _ _ _ (heap_alloc_last w _)]
    simpa using hu⟩
/-- A row as a level. -/
theorem lv_of_row {w : World} {B T : Nat} {V : Value} {n : Nat} {f : Nat → Hx} (h : w.ownsRow B T 32 V n (flat n f)) :
    ∃ a c, V = .slice a n c ∧ n ≤ c ∧ c ≤ maxLen ∧ ((n = 0 ∧ a = none ∧ c = 0) ∨ ∃ g, a = some ⟨g, 0, none⟩ ∧ B ≤ g ∧ g < w.heap.size ∧ Lv w g T n f) := by
  obtain ⟨h0, h1⟩ := h
  rcases h1 with ⟨rfl, e⟩ | ⟨g, cap, cur, rfl, hg, hc, hnc, hm, hs, ht⟩
  · have hn : n = 0 := by have := flat_len n f; rw [e] at this; simp at this; omega
    subst hn
    exact ⟨none, 0, rfl, Nat.le_refl _, by decide, .inl ⟨rfl, rfl, rfl⟩⟩
  · refine ⟨_, cap, rfl, hnc, hm, .inr ⟨g, rfl, hg, (Array.getElem?_eq_some_iff.1 hc).1, cur.size, fun i => cur.getD i (.int .i64 0), ?_, by rw [hs]; omega, fun k j hk hj => ?_⟩⟩
    · unfold IsTab
      have e : tab cur.size (fun i => cur.getD i (.int .i64 0)) = cur := by
        apply Array.ext_getElem?
        intro i
        by_cases hi : i < cur.size
        · rw [tab_at _ hi]; simp [hi]
        · rw [tab_out _ (by omega), Array.getElem?_eq_none (by omega)]
      rw [e]; exact hc
    · have e1 : (cur.toList.take (n * 32))[32 * k + j]? = (flat n f)[32 * k + j]? := by rw [ht]
      rw [List.getElem?_take, if_pos (by omega), flat_at hk hj] at e1
      simp at e1
      simp [e1]
theorem lv_grown {w w' : World} {q T N : Nat} {f : Nat → Hx} {row : Option Nat} (h : Lv w q T N f) (hg : w.grownBy w' row) (hr : row ≠ some q) : Lv w' q T N f := by
  obtain ⟨m, c, h1, h2, h3⟩ := h
  exact ⟨m, c, Rl.tab_grown h1 hg hr, h2, h3⟩
end Mk
namespace Rl
open Kc (tab IsTab)
open Mk (Hx pr dv Lv flat)
theorem mk64 (w : World) : (Instr.makeSlice 38 (.int .i64 64) (.int .i64 64)).run Tryd.prog w = .ok (.slice (some ⟨w.heap.size, 0, none⟩) 64 64) (w.alloc (.cells (tab 64 fun _ => ub 0) 5)) := by kernel_rfl
theorem zeroR (w : World) : (zeroValue 23).run Tryd.prog w = .ok (.agg (tab 32 fun _ => Kc.bv 0#8)) w := by kernel_rfl
theorem isBs_zeroT {w : World} {q T : Nat} (h : IsTab w q T 64 fun _ => ub 0) : Kc.IsBs w (some ⟨q, 0, none⟩) zL := .inr ⟨q, 0, rfl, fun j hj => by
  rw [zL_len] at hj
  rw [Nat.zero_add, h.cell j hj]
  have e : zL.getD j 0#8 = 0#8 := by simp [zL, hj]
  rw [e]
  rfl⟩
theorem rsum64 (w : World) (q : Nat) (X : List Bt) (hX : X.length = 64) (hB : Kc.IsBs w (some ⟨q, 0, none⟩) X) :
    Calls Tryd.prog 43 #[.slice (some ⟨q, 0, none⟩) 64 64] w fun e w' => e = .returned (dv (Kc.sum X)) ∧ Below w.heap.size w w' := by
  have h := Kc.rsum_walk X (some ⟨q, 0, none⟩) 64 w hB (fun e => by cases e) (by rw [hX]; exact Nat.le_refl _) (by rw [hX]; decide)
  rw [hX] at h
  exact h
def half (f : Nat → Hx) (k : Nat) : Hx := pr (f (2 * k)) (f (2 * k + 1))
theorem com_half (fs : List (Nat → Nat)) : com fs = half (half (half (leaf fs))) 0 := rfl
structure Cr (w : World) (B : Nat) (V : Value) (n : Nat) (f : Nat → Hx) (y : World) : Prop where
  below : Below w.heap.size w y
  res : IsTab y w.heap.size 23 32 fun _ => Kc.bv 0#8
  row : y.ownsRow B 23 32 V n (flat n f)
  hB : w.heap.size < B
  hs : B ≤ y.heap.size
structure Cs (w : World) (B g4 N : Nat) (f : Nat → Hx) (V : Value) (m : Nat) (y : World) : Prop where
  cr : Cr w B V m (half f) y
  lv : Lv y g4 23 N f
  ap : V.ownBlock ≠ some g4
  g4 : B ≤ g4
section
variable {w y y' : World} {B n m g4 N : Nat} {V V' : Value} {f : Nat → Hx} {x : Hx}
theorem Cr.next (h : Cr w B V n f y) (hb : Below y.heap.size y y') : Cr w B V n f y' := ⟨bl h.below hb, h.res.below hb, (Kept.ofBelow (S := fun _ => False) hb).row h.row (fun _ _ h => h), h.hB, Nat.le_trans h.hs hb.size⟩
theorem Cr.lo (h : Cr w B V n f y) {k : Nat} (hk : V.ownBlock = some k) : B ≤ k ∧ k < y.heap.size := by
  rcases ownsRow_forms h.row with ⟨e, _⟩ | ⟨g, cap, e, h1, h2, _⟩
  · rw [e] at hk; cases hk
  · rw [e] at hk
    have hk : some g = some k := hk
    injection hk with hk; subst hk; exact ⟨h1, h2⟩
theorem Cr.grown (h : Cr w B V n f y) (hown : y'.ownsRow B 23 32 V' (n + 1) (flat n f ++ flat 1 fun _ => x)) (hg : y.grownBy y' V.ownBlock) (hx : f n = x) : Cr w B V' (n + 1) f y' :=
  ⟨h.below.grown hg h.below.size (fun k hk => by have := (h.lo hk).1; have := h.hB; omega), tab_grown h.res hg (fun e => by have := (h.lo e).1; have := h.hB; omega),
    by rw [← hx, Mk.flat_step] at hown; exact hown, h.hB, Nat.le_trans h.hs hg.size⟩
theorem Cs.next (h : Cs w B g4 N f V m y) (hb : Below y.heap.size y y') : Cs w B g4 N f V m y' := ⟨h.cr.next hb, h.lv.below hb, h.ap, h.g4⟩
theorem Cs.grown (h : Cs w B g4 N f V m y) (hown : y'.ownsRow B 23 32 V' (m + 1) (flat m (half f) ++ flat 1 fun _ => x)) (hg : y.grownBy y' V.ownBlock) (hat : ∀ k, V'.ownBlock = some k → V.ownBlock = some k ∨ k = y.heap.size) (hx : half f m = x) : Cs w B g4 N f V' (m + 1) y' :=
  ⟨h.cr.grown hown hg hx, Mk.lv_grown h.lv hg h.ap, fun e => by
    rcases hat _ e with h4 | h4
    · exact h.ap h4
    · have := h.lv.lt; omega, h.g4⟩
end
set_option maxHeartbeats 4000000 in
set_option maxRecDepth 100000 in
theorem rCommit_long (w : World) (a : Option Addr) (n c : Nat) (h8 : 8 < n) :
    Calls Tryd.prog 24 #[.slice a n c] w fun e w' => e = .returned (.tuple #[dv hz, .int .i64 5]) ∧ Below w.heap.size w w' := by
  have z2 := zeroR
  obtain ⟨zh, hzh⟩ : ∃ z, (tab 32 fun _ => Kc.bv 0#8) = z := ⟨_, rfl⟩
  rw [hzh] at z2
  have HZ := Lib.hid hzh
  have h1 : (8 : Int) < n := by omega
  clear hzh h8
  go_enter Tryd.func24, Tryd.ntmps24
  go_upto_region 1 with (fail)
  have HT0 : Hid (IsTab (w.alloc (.cells zh 23)) w.heap.size 23 32 fun _ => Kc.bv 0#8) := Lib.hid (by rw [← HZ.out]; exact IsTab.new w _ 32 _)
  have HB0 : Hid (Below w.heap.size w (w.alloc (.cells zh 23))) := Lib.hid (ba w _)
  generalize w.alloc (.cells zh 23) = y0 at *
  go_wp2_with (refine wpList_store_row rfl 23 (.tmp 2) (.tmp 13) rfl w.heap.size zh rfl rfl 23 _ HT0.out (by rw [← HZ.out]; exact Kc.inf26 _) (by rw [← HZ.out, Kc.tab_size]) (by rw [← HZ.out]; exact Kc.one_bv _ _) ?_)
  have hr : IsTab (World.setRow y0 w.heap.size zh) w.heap.size 23 32 fun _ => Kc.bv 0#8 := by rw [← HZ.out]; exact HT0.out.row
  have hbb := Kc.below_setRow HB0.out (Nat.le_refl _) zh
  exact bodyPost_ret (Kc.results_cell_tmp rfl _ _ w.heap.size 23 _ (0, 0) _ rfl hr Kc.und26 rfl (Kc.inf26 _) (.int .i64 5) rfl) rfl ⟨rfl, hbb⟩
set_option maxHeartbeats 8000000 in
set_option maxRecDepth 100000 in
theorem rCommit_ok (w : World) (a : Option Addr) (n c : Nat) (fs : List (Nat → Nat)) (hT : IsT w a n c fs) (h8 : n ≤ 8) :
    Calls Tryd.prog 24 #[.slice a n c] w fun e w' => e = .returned (.tuple #[dv (com fs), .int .i64 0]) ∧ Below w.heap.size w w' := by
  have HT := Lib.hid hT
  have HN := Lib.hid (show n = fs.length ∧ n ≤ 8 from ⟨hT.1, h8⟩)
  obtain ⟨i0, hi0, hi1, hi2, hi3⟩ := Mk.infRs
  have HI := Lib.hid (And.intro hi0 (And.intro hi1 (And.intro hi2 hi3)))
  clear hi0 hi1 hi2 hi3
  have hCF := com_half fs
  obtain ⟨F, hF⟩ : ∃ F, leaf fs = F := ⟨_, rfl⟩
  rw [hF] at hCF
  have HF2 := Lib.hid hF
  have HCF := Lib.hid hCF
  have z2 := zeroR
  obtain ⟨zh, hzh⟩ : ∃ z, (tab 32 fun _ => Kc.bv 0#8) = z := ⟨_, rfl⟩
  rw [hzh] at z2
  have zp := zeroP4
  obtain ⟨zq, hzq⟩ : ∃ z, tab 64 (fun _ => ub 0) = z := ⟨_, rfl⟩
  rw [hzq] at zp
  have hmk := mk64
  rw [hzq] at hmk
  have HZ := Lib.hid (And.intro hzh hzq)
  have HMK := Lib.hid hmk
  have HZP := Lib.hid zp
  have h1 : ¬ (8 : Int) < n := by omega
  clear hzh hzq hT h8 hF hCF hmk zp
  go_enter Tryd.func24, Tryd.ntmps24
  go_upto_region 1 with (fail)
  have HC0 : Hid (Cr w (w.heap.size + 1) (.slice none 0 0) 0 F (w.alloc (.cells zh 23))) := Lib.hid ⟨ba w _, by rw [← HZ.out.1]; exact IsTab.new w _ 32 _, World.ownsRow_nil _ _ _ _, by omega, by simp⟩
  generalize w.alloc (.cells zh 23) = y0 at *
  obtain ⟨B, hBB⟩ : ∃ B, w.heap.size + 1 = B := ⟨_, rfl⟩
  rw [hBB] at HC0
  clear hBB z2
  go_wp2_with (fail)
  clear h1
  go_loopw [4, 5] (fun V i y => ∃ j : Nat, i = .int .i64 j ∧ Hid (j ≤ 8 ∧ Cr w B V j F y)) (fun _ i _ => 8 - (intOf i).toNat)
  case atStart => exact ⟨0, rfl, Lib.hid ⟨Nat.zero_le _, HC0.out⟩⟩
  case round =>
    obtain ⟨j, rfl, hp⟩ := hrel
    have HC := Lib.hid hp.out.2
    have HJ8 := Lib.hid hp.out.1
    clear hp HC0
    generalize u4 = V at *
    by_cases hlt : (j : Int) < 8
    · have HJ := Lib.hid (show j < 8 ∧ wrap64 ((j : Int) + 1) = ((j + 1 : Nat) : Int) by refine ⟨by omega, ?_⟩; unfold wrap64; omega)
      have hmk := HMK.out
      go_upto_region 8 with (fail)
      have HC2 := Lib.hid (HC.out.next (ba wr (.cells zq 5)))
      have HS2 : Hid (IsTab (wr.alloc (.cells zq 5)) wr.heap.size 5 64 fun _ => ub 0) := Lib.hid (by rw [← HZ.out.2]; exact IsTab.new wr _ 64 _)
      clear hmk
      generalize wr.alloc (.cells zq 5) = y2 at *
      generalize wr.heap.size = q6 at *
      by_cases hjn : (j : Int) < n
      · obtain ⟨b, o, f0, rfl, hfj, G0, G1, G2, G3, G4, G5⟩ := (HT.out.keep (keep_below HC2.out.below)).at (show j < n by omega)
        have HRC := Lib.hid (rrecord_walk y2 f0)
        have HLF := Lib.hid (show F j = Kc.sum (recL f0) by rw [← HF2.out]; unfold leaf; rw [hfj])
        clear hfj
        have zp := HZP.out
        go_upto_region 10 with (first
          | (go_at_call 17; (with_reducible refine HRC.out.mono ?_); rintro e y3 ⟨rfl, hb⟩
             have HC3 := Lib.hid (HC2.out.next hb)
             clear hb HRC HC2 HS2)
          | (refine wpList_store_row rfl 32 (.tmp 7) (.tmp 27) rfl y3.heap.size (tab 64 fun j => ub (recB f0 j)) rfl rfl 32 zq (heap_alloc_last y3 _) (infP4 _) (by rw [← HZ.out.2, Kc.tab_size, Kc.tab_size]) (Kc.tab_one fun i => rfl) ?_))
        clear G0 G1 G2 G3 G4 G5 zp
        rw [World.setRow_alloc_new]
        try simp only [Act.put]
        have HC4 := Lib.hid (HC3.out.next (ba y3 (.cells (tab 64 fun j => ub (recB f0 j)) 32)))
        have HS4 : Hid (IsTab (y3.alloc (.cells (tab 64 fun j => ub (recB f0 j)) 32)) y3.heap.size 32 64 fun j => ub (recB f0 j)) := Lib.hid (IsTab.new y3 _ 64 _)
        generalize y3.alloc (.cells (tab 64 fun j => ub (recB f0 j)) 32) = y4 at *
        generalize y3.heap.size = q7 at *
        have s1 := slP4 q7
        have HSM := Lib.hid (rsum64 y4 q7 (recL f0) (recL_len f0) (isBs_rec HS4.out))
        rw [← HLF.out] at HSM
        have HLB : Hid (j + 1 ≤ maxLen ∧ (j + 1) * 32 ≤ 140737488355328) := Lib.hid (by have := HJ.out.1; unfold maxLen; omega)
        go_wp2_with (first
          | (go_at_call 43; (with_reducible refine HSM.out.mono ?_); rintro e y5 ⟨rfl, hb⟩
             have HC5 := Lib.hid (HC4.out.next hb)
             clear hb HSM)
          | (refine wpList_build1 rfl 102 (.tmp 31) rfl (dv (F j)) (.slice (some ⟨y5.heap.size, 0, none⟩) 1 1) rfl (y5.alloc (.cells (tab 32 fun i => Kc.bv (F j i)) 23)) (Mk.buildR _ y5) ?_
             have HC6 := Lib.hid (HC5.out.next (ba y5 (.cells (tab 32 fun i => Kc.bv (F j i)) 23))))
          | (refine wpList_append_any rfl (.tmp 29) (.tmp 32) 102 rfl B 23 i0 (dv fun _ => 0#8) 32 32 Mk.undRs HI.out Mk.zcells (by decide) V j (flat j F) rfl HC6.out.row (some ⟨y5.heap.size, 0, none⟩) 1 1 (flat 1 fun _ => F j) rfl (Mk.src1R y5 (F j)) (Mk.flat_one _ _) HLB.out.1 HLB.out.2 HC6.out.hs ?_
             rintro V7 y7 hown hgr hat
             have HC7 := Lib.hid (HC6.out.grown hown hgr rfl)
             clear hown hgr hat))
        try rw [HJ.out.2]
        go_roundw
        case rel => exact ⟨j + 1, rfl, Lib.hid ⟨HJ.out.1, HC7.out⟩⟩
        case measure => have := HJ.out.1; show 8 - (j + 1) < 8 - j; omega
      · have HLF := Lib.hid (show F j = Kc.sum zL by rw [← HF2.out]; unfold leaf; rw [List.getElem?_eq_none (by have := HN.out.1; omega)])
        have HSM := Lib.hid (rsum64 y2 q6 zL zL_len (isBs_zeroT HS2.out))
        rw [← HLF.out] at HSM
        have HC4 := HC2
        have HLB : Hid (j + 1 ≤ maxLen ∧ (j + 1) * 32 ≤ 140737488355328) := Lib.hid (by have := HJ.out.1; unfold maxLen; omega)
        go_wp2_with (first
          | (go_at_call 43; (with_reducible refine HSM.out.mono ?_); rintro e y5 ⟨rfl, hb⟩
             have HC5 := Lib.hid (HC4.out.next hb)
             clear hb HSM)
          | (refine wpList_build1 rfl 102 (.tmp 31) rfl (dv (F j)) (.slice (some ⟨y5.heap.size, 0, none⟩) 1 1) rfl (y5.alloc (.cells (tab 32 fun i => Kc.bv (F j i)) 23)) (Mk.buildR _ y5) ?_
             have HC6 := Lib.hid (HC5.out.next (ba y5 (.cells (tab 32 fun i => Kc.bv (F j i)) 23))))
          | (refine wpList_append_any rfl (.tmp 29) (.tmp 32) 102 rfl B 23 i0 (dv fun _ => 0#8) 32 32 Mk.undRs HI.out Mk.zcells (by decide) V j (flat j F) rfl HC6.out.row (some ⟨y5.heap.size, 0, none⟩) 1 1 (flat 1 fun _ => F j) rfl (Mk.src1R y5 (F j)) (Mk.flat_one _ _) HLB.out.1 HLB.out.2 HC6.out.hs ?_
             rintro V7 y7 hown hgr hat
             have HC7 := Lib.hid (HC6.out.grown hown hgr rfl)
             clear hown hgr hat))
        try rw [HJ.out.2]
        go_roundw
        case rel => exact ⟨j + 1, rfl, Lib.hid ⟨HJ.out.1, HC7.out⟩⟩
        case measure => have := HJ.out.1; show 8 - (j + 1) < 8 - j; omega
    · have HC9 : Hid (Cr w B V 8 F wr) := Lib.hid (by have h := HC.out; have e := HJ8.out; rwa [show j = 8 by omega] at h)
      clear HC HJ8
      go_upto_region 12 with (fail)
      clear hlt
      go_loopg [4] 8 (fun g V y => ∃ f, Hid (((g = 8 ∧ f = F) ∨ (g = 4 ∧ f = half F) ∨ (g = 2 ∧ f = half (half F)) ∨ (g = 1 ∧ f = half (half (half F)))) ∧ Cr w B V g f y))
      case atStart => exact ⟨_, Lib.hid ⟨.inl ⟨rfl, rfl⟩, HC9.out⟩⟩
      case round =>
        obtain ⟨f, hp⟩ := hrel
        have HCF4 := Lib.hid hp.out.2
        have HLV := Lib.hid hp.out.1
        obtain ⟨N, rfl⟩ : ∃ N, N = gk := ⟨_, rfl⟩
        have HG8 := Lib.hid (show N ≤ 8 ∧ 0 < N by rcases hp.out.1 with h | h | h | h <;> omega)
        clear hp HC9
        generalize u4 = V4 at *
        obtain ⟨a4, c4, rfl, hnc, hm4, hcase⟩ := Mk.lv_of_row HCF4.out.row
        obtain ⟨g4, rfl, hBg, hgs, hlv⟩ : ∃ g, a4 = some ⟨g, 0, none⟩ ∧ B ≤ g ∧ g < wr.heap.size ∧ Lv wr g 23 N f := by
          rcases hcase with ⟨h0, _⟩ | h0
          · have := HG8.out.2; omega
          · exact h0
        have HLV4 := Lib.hid (And.intro hlv (And.intro hBg hgs))
        clear hnc hm4 hcase hBg hgs hlv
        by_cases hg : (1 : Int) < N
        · have HEV : Hid (∃ K, N = 2 * K ∧ 0 < K) := Lib.hid (by rcases HLV.out with h | h | h | h; exact ⟨4, by omega, by decide⟩; exact ⟨2, by omega, by decide⟩; exact ⟨1, by omega, by decide⟩; omega)
          have HGN := Lib.hid hg
          go_upto_region 15 with (fail)
          try rw [decide_eq_true hg]
          try rw [decide_eq_true (show 1 < N by omega)]
          clear hg
          have HS0 : Hid (Cs w B g4 N f (.slice none 0 0) 0 wr) := Lib.hid ⟨⟨HCF4.out.below, HCF4.out.res, World.ownsRow_nil _ _ _ _, HCF4.out.hB, HCF4.out.hs⟩, HLV4.out.1, by simp [Value.ownBlock], HLV4.out.2.1⟩
          clear HCF4 HLV4
          go_loopg [8, 9] N (fun g V i y => ∃ I : Nat, i = .int .i64 I ∧ Hid (g = N - I ∧ ∃ m, I = 2 * m ∧ I ≤ N ∧ Cs w B g4 N f V m y))
          case atStart => exact ⟨0, rfl, Lib.hid ⟨rfl, 0, rfl, Nat.zero_le _, HS0.out⟩⟩
          case round =>
            obtain ⟨I, rfl, hp⟩ := hrel
            obtain ⟨hgI, m, hIm, hIN, hcs⟩ := hp.out
            have HD0 := Lib.hid hcs
            have HII := Lib.hid (And.intro hgI (And.intro hIm hIN))
            clear hp HS0 hgI hIm hIN hcs
            generalize u8 = V8 at *
            by_cases hm : (I : Int) < N
            · have HJ := Lib.hid (show I < N ∧ I + 1 < N by have := HII.out; obtain ⟨K, hK, _⟩ := HEV.out; omega)
              obtain ⟨I1, hI1⟩ : ∃ x, I + 1 = x := ⟨_, rfl⟩
              obtain ⟨I2, hI2⟩ : ∃ x, I + 2 = x := ⟨_, rfl⟩
              have HI1 := Lib.hid (And.intro hI1 hI2)
              have e1 : IntKind.i64.wrap ((I : Int) + 1) = (I1 : Int) := by have := HJ.out; have := HG8.out; rw [IntKind.wrap_i64]; omega
              have e2 := Lib.hid (show wrap64 ((I : Int) + 2) = (I2 : Int) by have := HJ.out; have := HG8.out; unfold wrap64; omega)
              have b1 : (I1 : Int) < N := by have := HJ.out; omega
              go_upto_region 17 with (fail)
              have hm' := Lib.hid hm
              clear hI1 hI2
              refine wp_region_og (fun y : World => Lv y g4 23 N f) (.take 0 (.take 1 (.take 2 (.take 3 (.take 4 (.take 5 (.take 6 (.take 7 (.take 8 (.take 9 (.one 10 (.one 11 (.one 12 (.one 13 .done)))))))))))))) (by kernel_rfl) (by kernel_rfl) (HD0.out.next (Below.refl _ _).drew).lv ?_
              have HD := Lib.hid (HD0.out.next (Below.refl _ _).drew)
              generalize World.drew _ = wd at *
              refine og_tk (some 43) (V8) rfl rfl (by go_simp) (fun _ _ => by simp [execOp, go_sem]) ?_
              simp only [Act.put, List.setIfInBounds_toArray, List.set_cons_zero, List.set_cons_succ]
              refine og_tk (some 44) (.slice (some ⟨g4, 0, none⟩) N c4) rfl rfl (by go_simp) (fun _ _ => by simp [execOp, go_sem]) ?_
              simp only [Act.put, List.setIfInBounds_toArray, List.set_cons_zero, List.set_cons_succ]
              refine og_tk (some 45) (.int .i64 I) rfl rfl (by go_simp) (fun _ _ => by simp [execOp, go_sem]) ?_
              simp only [Act.put, List.setIfInBounds_toArray, List.set_cons_zero, List.set_cons_succ]
              refine og_tk (some 46) (.pointer (some ⟨g4, I * 32, none⟩)) rfl rfl (by go_simp) (fun _ _ => by simp [execOp, go_sem, hm, add_at]) ?_
              simp only [Act.put, List.setIfInBounds_toArray, List.set_cons_zero, List.set_cons_succ]
              refine og_ld (some 47) 23 (.tmp 46) (.pointer (some ⟨g4, I * 32, none⟩)) (dv (f I)) rfl rfl (by go_simp) rfl rfl (fun y hy => Mk.loadR hy.at5 (k := I) (p := I * 32) (by have := HJ.out; omega) (by omega)) ?_
              simp only [Act.put, List.setIfInBounds_toArray, List.set_cons_zero, List.set_cons_succ]
              refine og_tk (some 48) (.slice (some ⟨g4, 0, none⟩) N c4) rfl rfl (by go_simp) (fun _ _ => by simp [execOp, go_sem]) ?_
              simp only [Act.put, List.setIfInBounds_toArray, List.set_cons_zero, List.set_cons_succ]
              refine og_tk (some 49) (.int .i64 I) rfl rfl (by go_simp) (fun _ _ => by simp [execOp, go_sem]) ?_
              simp only [Act.put, List.setIfInBounds_toArray, List.set_cons_zero, List.set_cons_succ]
              refine og_tk (some 50) (.int .i64 I1) rfl rfl (by go_simp) (fun _ _ => by simp [execOp, go_sem, e1]) ?_
              simp only [Act.put, List.setIfInBounds_toArray, List.set_cons_zero, List.set_cons_succ]
              refine og_tk (some 51) (.pointer (some ⟨g4, I1 * 32, none⟩)) rfl rfl (by go_simp) (fun _ _ => by simp [execOp, go_sem, b1, add_at]) ?_
              simp only [Act.put, List.setIfInBounds_toArray, List.set_cons_zero, List.set_cons_succ]
              refine og_ld (some 52) 23 (.tmp 51) (.pointer (some ⟨g4, I1 * 32, none⟩)) (dv (f I1)) rfl rfl (by go_simp) rfl rfl (fun y hy => Mk.loadR hy.at5 (k := I1) (p := I1 * 32) (by have := HJ.out; have := HI1.out; omega) (by omega)) ?_
              simp only [Act.put, List.setIfInBounds_toArray, List.set_cons_zero, List.set_cons_succ]
              clear e1 b1 hm HD0
              have HLB : Hid (m + 1 ≤ maxLen ∧ (m + 1) * 32 ≤ 140737488355328) := Lib.hid (by have := HJ.out.1; have := HII.out; have := HG8.out; unfold maxLen; omega)
              have HHF := Lib.hid (show half f m = pr (f I) (f I1) by unfold half; rw [← HI1.out.1, HII.out.2.1])
              refine og_f rfl (by go_simp) fun K hK => ?_
              go_simp
              refine (Mk.rpair_dv (f I) (f I1) wd).mono ?_
              rintro r y3 ⟨rfl, hb⟩
              have HD3 := Lib.hid (HD.out.next hb)
              refine hK _ _ HD3.out.lv ?_
              try simp only [Act.put, List.setIfInBounds_toArray, List.set_cons_zero, List.set_cons_succ]
              clear hK K hb
              refine og_f rfl (by go_simp) fun K hK => ?_
              refine wp_build1' 102 (.tmp 53) rfl (dv (pr (f I) (f I1))) (.slice (some ⟨y3.heap.size, 0, none⟩) 1 1) rfl (y3.alloc (.cells (tab 32 fun i => Kc.bv (pr (f I) (f I1) i)) 23)) (Mk.buildR _ y3) ?_
              have HD4 := Lib.hid (HD3.out.next (ba y3 (.cells (tab 32 fun i => Kc.bv (pr (f I) (f I1) i)) 23)))
              refine hK _ _ HD4.out.lv ?_
              try simp only [Act.put, List.setIfInBounds_toArray, List.set_cons_zero, List.set_cons_succ]
              clear hK K
              refine og_f rfl (by go_simp) fun K hK => ?_
              refine wp_append_any (.tmp 43) (.tmp 54) 102 rfl B 23 i0 (dv fun _ => 0#8) 32 32 Mk.undRs HI.out Mk.zcells (by decide) V8 m (flat m (half f)) rfl HD4.out.cr.row (some ⟨y3.heap.size, 0, none⟩) 1 1 (flat 1 fun _ => pr (f I) (f I1)) rfl (Mk.src1R y3 (pr (f I) (f I1))) (Mk.flat_one _ _) HLB.out.1 HLB.out.2 HD4.out.cr.hs ?_
              intro V7 y7 hown hgr hat
              have HD7 := Lib.hid (HD4.out.grown hown hgr hat HHF.out)
              clear hown hgr hat
              refine hK _ _ HD7.out.lv ?_
              try simp only [Act.put, List.setIfInBounds_toArray, List.set_cons_zero, List.set_cons_succ]
              clear hK K
              refine og_f rfl (by go_simp) fun K hK => ?_
              go_simp
              refine hK _ _ HD7.out.lv ?_
              try simp only [Act.put, List.setIfInBounds_toArray, List.set_cons_zero, List.set_cons_succ]
              clear hK K
              refine og_done (NoPanic.normal ?_)
              go_wp2_with (fail)
              try rw [e2.out]
              go_roundg (N - I2)
              case measure => have := HJ.out; have := HII.out; have := HI1.out; omega
              case rel => exact ⟨I2, rfl, Lib.hid ⟨rfl, m + 1, by have := HII.out; have := HI1.out; omega, by have := HJ.out; have := HI1.out; omega, HD7.out⟩⟩
            · have HE : Hid (I = N ∧ N / 2 = m) := Lib.hid (by have := HII.out; omega)
              go_wp2_with (fail)
              go_roundg (N / 2)
              case measure => have := HGN.out; omega
              case rel => exact ⟨half f, Lib.hid ⟨by
                rcases HLV.out with ⟨h, e⟩ | ⟨h, e⟩ | ⟨h, e⟩ | ⟨h, e⟩
                · subst h; rw [e]; exact .inr (.inl ⟨rfl, rfl⟩)
                · subst h; rw [e]; exact .inr (.inr (.inl ⟨rfl, rfl⟩))
                · subst h; rw [e]; exact .inr (.inr (.inr ⟨rfl, rfl⟩))
                · have := HGN.out; omega, by rw [HE.out.2]; exact HD0.out.cr⟩⟩
        · have HN1 : Hid (N = 1 ∧ f = half (half (half F))) := Lib.hid (by rcases HLV.out with h | h | h | h <;> first | (exact absurd h.1 (by omega)) | exact h)
          have hpos : (0 : Int) < N := by have := HN1.out.1; omega
          have D1 := Lib.hid (show (Instr.loadAt 23 (.pointer (some ⟨g4, 0, none⟩))).run Tryd.prog wr = .ok (dv (com fs)) wr by
            have := Mk.loadR HLV4.out.1.at5 (k := 0) (p := 0) HG8.out.2 (by omega)
            rw [HN1.out.2, ← HCF.out] at this
            exact this)
          have D1 := Lib.hid D1.out
          go_wp2_with (first
            | ((with_reducible refine wpList_loadE (P := Tryd.prog) (w := wr) (ty := 23) (x := .tmp 58) (p := .pointer (some ⟨g4, 0, none⟩)) (v := dv (com fs)) ?_ ?_ ?_ D1.out ?_); (· exact rfl); (· exact rfl); (· exact rfl))
            | (refine wpList_store_row rfl 23 (.tmp 2) (.tmp 59) rfl w.heap.size (tab 32 fun i => Kc.bv (com fs i)) rfl rfl 23 _ HCF4.out.res (Kc.inf26 _) (by rw [Kc.tab_size, Kc.tab_size]) (Kc.one_bv _ _) ?_))
          have hr : IsTab (World.setRow wr w.heap.size (tab 32 fun i => Kc.bv (com fs i))) w.heap.size 23 32 fun i => Kc.bv (com fs i) := HCF4.out.res.row
          have hbb := Kc.below_setRow HCF4.out.below (Nat.le_refl _) (tab 32 fun i => Kc.bv (com fs i))
          exact bodyPost_ret (Kc.results_cell_tmp rfl _ _ w.heap.size 23 _ (0, 0) _ rfl hr Kc.und26 rfl (Kc.inf26 _) (.int .i64 0) rfl) rfl ⟨rfl, hbb⟩
end Rl
end Go.Proofs.YtkhdamjjbjmeaaaDoor
