/-
  (*Hasher).Sum. Own work.
-/
import Derived.Test.YtkhdamjjbjmeaaaDoorKadd
namespace Go.Proofs.YtkhdamjjbjmeaaaDoor
open Go.RowKit
set_option linter.unusedVariables false
namespace Kc
structure Hr (W : World) (q q1 q2 : Nat) (s : Nat → Wd64) (pc : Nat → Bt) (fill : Nat) (p : Nat → Bt) (y : World) : Prop where
  sh : IsTab y q 74 162 (hv s pc fill)
  sr : IsTab y q1 24 32 fun _ => bv 0#8
  sl : IsTab y q2 72 136 fun i => bv (p i)
  n01 : q ≠ q1
  n02 : q ≠ q2
  n12 : q1 ≠ q2
  g1 : W.heap.size ≤ q1
  g2 : W.heap.size ≤ q2
  below : Below W.heap.size W y
  kt : Laid.KTab y
  kq : 1 ≠ q2
theorem Bv_xor1 (x : Bt) : bits .xor .u8 (Bv x) 1 = Bv (x ^^^ 1#8) := by
  unfold Bv; rw [show (1 : Int) = ((1 : Nat) : Int) from rfl, u8_xor_nat _ _ x.isLt (by decide), BitVec.toNat_xor]; rfl
theorem Bv_xor128 (x : Bt) : bits .xor .u8 (Bv x) 128 = Bv (x ^^^ 128#8) := by
  unfold Bv; rw [show (128 : Int) = ((128 : Nat) : Int) from rfl, u8_xor_nat _ _ x.isLt (by decide), BitVec.toNat_xor]; rfl
theorem Hr.cong {W : World} {q q1 q2 fill : Nat} {s : Nat → Wd64} {pc p p' : Nat → Bt} {y : World} (h : Hr W q q1 q2 s pc fill p y) (e : ∀ j, j < 136 → p j = p' j) : Hr W q q1 q2 s pc fill p' y :=
  ⟨h.sh, h.sr, h.sl.cong (fun i hi => by rw [e i hi]), h.n01, h.n02, h.n12, h.g1, h.g2, h.below, h.kt, h.kq⟩
theorem Hr.set {W : World} {q q1 q2 fill : Nat} {s : Nat → Wd64} {pc p : Nat → Bt} {y : World} (h : Hr W q q1 q2 s pc fill p y) (n : Nat) (x : Bt) :
    Hr W q q1 q2 s pc fill (fun j => if j = n then x else p j) (y.setCell ⟨q2, n, none⟩ (.int .u8 (Bv x))) :=
  ⟨h.sh.keep h.n02, h.sr.keep h.n12, (h.sl.set n _).cong (fun i _ => by unfold updv bv; dsimp only; split <;> rfl), h.n01, h.n02, h.n12, h.g1, h.g2, h.below.setCell h.g2 _, fun i hi => by rw [World.cell?_setCell_other _ _ _ _ (fun e => by have := h.kq; exact this (congrArg Addr.block e).symm)]; exact h.kt i hi, h.kq⟩
theorem Hr.next {W : World} {q q1 q2 fill : Nat} {s : Nat → Wd64} {pc p : Nat → Bt} {y y' : World} (h : Hr W q q1 q2 s pc fill p y) (hb : Below y.heap.size y y') : Hr W q q1 q2 s pc fill p y' :=
  ⟨h.sh.below hb, h.sr.below hb, h.sl.below hb, h.n01, h.n02, h.n12, h.g1, h.g2, bl h.below hb, ktab_below h.kt hb, h.kq⟩
theorem Hr.drew {W : World} {q q1 q2 fill : Nat} {s : Nat → Wd64} {pc p : Nat → Bt} {y : World} (h : Hr W q q1 q2 s pc fill p y) : Hr W q q1 q2 s pc fill p y.drew :=
  ⟨h.sh, h.sr, h.sl, h.n01, h.n02, h.n12, h.g1, h.g2, h.below.drew, h.kt, h.kq⟩
theorem Hr.zero {W : World} {q q1 q2 fill n : Nat} {s : Nat → Wd64} {pc : Nat → Bt} {y : World} (h : Hr W q q1 q2 s pc fill (fun j => if fill ≤ j ∧ j < n then 0#8 else pc j) y) (hn : fill ≤ n) (hn2 : n < 136) :
    Hr W q q1 q2 s pc fill (fun j => if fill ≤ j ∧ j < n + 1 then 0#8 else pc j) (y.setCell ⟨q2, n, none⟩ (.int .u8 0)) :=
  (h.set n 0#8).cong fun j _ => by
    by_cases e : j = n
    · subst e; rw [if_pos rfl, if_pos ⟨hn, by omega⟩]
    · rw [if_neg e]
      by_cases e2 : fill ≤ j ∧ j < n
      · rw [if_pos e2, if_pos ⟨e2.1, by omega⟩]
      · rw [if_neg e2, if_neg (by omega)]
theorem zero136 (w : World) : (zeroValue 72).run Tryd.prog w = .ok (.agg (tab 136 fun _ => bv 0#8)) w := by kernel_rfl
theorem zeroHash (w : World) : (zeroValue 24).run Tryd.prog w = .ok (.agg (tab 32 fun _ => bv 0#8)) w := by kernel_rfl
theorem last_is {l : List Bt} {fill : Nat} {pc : Nat → Bt} (hF : l.length % 136 = fill) (hfl : fill < 136) (hpc : ∀ j, j < fill → pc j = l.getD (136 * (l.length / 136) + j) 0#8) : ∀ j, j < 136 →
    (if j = 135 then (if 135 = fill then 1#8 else if fill ≤ 135 ∧ 135 < 136 then 0#8 else pc 135) ^^^ 128#8 else (if j = fill then 1#8 else if fill ≤ j ∧ j < 136 then 0#8 else pc j)) = last l j := by
  intro j hj
  unfold last
  rw [hF]
  by_cases h1 : j < fill
  · rw [if_neg (by omega), if_neg (by omega), if_neg (by omega), if_pos h1, if_neg (by omega), if_neg (by omega), hpc j h1]
    simp
  · rw [if_neg h1]
    by_cases h2 : j = fill
    · subst h2
      rw [if_pos rfl, if_pos rfl]
      by_cases h3 : j = 135
      · subst h3; rw [if_pos rfl, if_pos rfl, if_pos rfl]; rfl
      · rw [if_neg h3, if_neg h3]; rfl
    · rw [if_neg h2, if_neg h2]
      by_cases h3 : j = 135
      · subst h3; rw [if_pos rfl, if_neg (by omega), if_pos (by omega), if_pos rfl]; rfl
      · rw [if_neg h3, if_pos (by omega), if_neg h3]; rfl
theorem results_cell_tmp {P : Program} {fn : Func} {p s : Tmp} {ty : TypeId} (h : fn.results = #[.cell p ty, .tmp s]) (tmps : Array Value) (w : World) (g : Nat) (t : TypeId) (cs : Array Value) (fr : Nat × Nat) (d : TypeDesc)
    (hp : tmps.getD p undef = .pointer (some ⟨g, 0, none⟩)) (hg : w.heap[g]? = some (.cells cs t fr))
    (hu : P.underlying ty = some d) (hd : (match d with | .struct _ | .array _ _ => true | _ => false) = true) (hi : (P.info? ty).map (·.size) = some cs.size) (v : Value) (hs : tmps.getD s undef = v) :
    (results fn tmps).run P w = .ok (.tuple #[.agg cs, v]) w := by
  have hs' : tmps[s]?.getD undef = v := by simpa using hs
  have hp' : tmps[p]?.getD undef = .pointer (some ⟨g, 0, none⟩) := by simpa using hp
  simp [results, h, hp', hs', asAddr, run_loadVar_row w g t ty cs fr d hg hu hd hi]
set_option maxHeartbeats 8000000 in
set_option maxRecDepth 100000 in
theorem hsum_walk (hP : PermIs) (q : Nat) (l : List Bt) (w : World) (ht : Laid.KTab w) (hH : IsH w q l) :
    Calls Tryd.prog 29 #[.pointer (some ⟨q, 0, none⟩)] w fun e w' => e = .returned (.tuple #[.agg (tab 32 fun i => bv (sum l i)), .nilIface]) ∧ Below w.heap.size w w' := by
  obtain ⟨pc, hs, hpc⟩ := hH
  have HS := Lib.hid hs
  have HPC := Lib.hid hpc
  have HT := Lib.hid ht
  clear hs hpc ht
  have hfl : l.length % 136 < 136 := Nat.mod_lt _ (by decide)
  generalize hF : l.length % 136 = fill at *
  have HF := Lib.hid hF
  clear hF
  generalize hSt : st l (l.length / 136) = s at *
  have HSt := Lib.hid hSt
  clear hSt
  have z1 := zero136
  have z2 := zeroHash
  generalize hz : (tab 32 fun _ => bv 0#8) = zh at *
  have HZ := Lib.hid hz
  clear hz
  generalize hz : (tab 136 fun _ => bv 0#8) = zp at *
  have HZP := Lib.hid hz
  clear hz
  go_enter Tryd.func29, Tryd.ntmps29
  go_upto_region 3 with (fail)
  have h1 : Hid (IsTab (w.alloc (.cells zh 24)) q 74 162 (hv s pc fill) ∧ IsTab (w.alloc (.cells zh 24)) w.heap.size 24 32 (fun _ => bv 0#8) ∧ q < w.heap.size ∧ (w.alloc (.cells zh 24)).heap.size = w.heap.size + 1 ∧ Below w.heap.size w (w.alloc (.cells zh 24)) ∧ Laid.KTab (w.alloc (.cells zh 24))) := by
    rw [← HZ.out]
    exact Lib.hid ⟨IsTab.alloc HS.out _, IsTab.new w _ 32 _, HS.out.lt, by simp, (Below.refl _ _).alloc (Nat.le_refl _) _, ktab_below HT.out ((Below.refl _ _).alloc (Nat.le_refl _) _)⟩
  clear HS HT
  generalize w.alloc (.cells zh 24) = w1 at *
  generalize hq1 : w.heap.size = q1 at *
  have HQ1 := Lib.hid hq1
  clear hq1
  have hzl : zp.size = 136 := by rw [← HZP.out, tab_size]
  have HZL := Lib.hid hzl
  clear hzl
  have hmid := IsTab.range h1.out.1 25 136 (fun i => bv (pc i)) (by decide) (fun j hj => by unfold hv; rw [if_neg (by omega), if_pos (by omega), show 25 + j - 25 = j from by omega])
  have HM := Lib.hid hmid
  clear hmid
  go_upto_region 4 with (first
    | (refine wpList_load_mid rfl 72 (.tmp 12) rfl q 25 rfl ((List.range 136).map fun i => bv (pc i)) _ HM.out und136' rfl (by rw [List.length_map, List.length_range]; exact inf136') ?_)
    | (refine wpList_store_row rfl 72 (.tmp 4) (.tmp 13) rfl w1.heap.size (tab 136 fun i => bv (pc i)) rfl rfl 72 zp (heap_alloc_last w1 _) (inf136 _) (by rw [HZL.out, tab_size]) (one_bv _ _) ?_))
  rw [World.setRow_alloc_new]
  simp only [Act.put]
  have HR : Hid (Hr w q q1 w1.heap.size s pc fill pc (w1.alloc (.cells (tab 136 fun i => bv (pc i)) 72))) := by
    obtain ⟨a1, a2, a3, a4, a5, a6⟩ := h1.out
    refine Lib.hid ⟨a1.alloc _, a2.alloc _, IsTab.new w1 _ 136 _, by omega, by omega, by omega, by rw [HQ1.out]; omega, by rw [HQ1.out]; omega, ?_, ktab_below a6 ((Below.refl _ _).alloc (Nat.le_refl _) _), fun e => by have := inHeap (a6 0 (by decide)); omega⟩
    rw [HQ1.out]; exact a5.alloc (by omega) _
  clear h1 HM HZ HZP z1 z2 HZL
  generalize w1.alloc (.cells (tab 136 fun i => bv (pc i)) 72) = y0 at *
  generalize w1.heap.size = q2 at *
  have c161 : _ = some (Value.int .i64 (fill : Int)) := HR.out.sh.cell 161 (by decide)
  go_wp2_with fail
  clear c161
  go_loopw [5] (fun i y => ∃ n : Nat, fill ≤ n ∧ n ≤ 136 ∧ i = .int .i64 n ∧ Hid (Hr w q q1 q2 s pc fill (fun j => if fill ≤ j ∧ j < n then 0#8 else pc j) y)) (fun i _ => 136 - (intOf i).toNat)
  case atStart => exact ⟨fill, Nat.le_refl _, by omega, rfl, Lib.hid (HR.out.cong fun j _ => by rw [if_neg (by omega)])⟩
  case round =>
    obtain ⟨n, hfn, hn, rfl, hp⟩ := hrel
    clear HR
    by_cases hlt : (n : Int) < 136
    · have cj := hp.out.sl.cell n (by omega)
      have fj := hp.out.sl.fz n
      go_wp2_with fail
      go_roundw
      case rel => exact ⟨n + 1, by omega, by omega, by go_num, Lib.hid (hp.out.zero hfn (by omega))⟩
      case measure => simp [intOf]; omega
    · obtain rfl : n = 136 := by omega
      have c161 : _ = some (Value.int .i64 (fill : Int)) := hp.out.sh.cell 161 (by decide)
      have cj : _ = some (Value.int .u8 (Bv _)) := hp.out.sl.cell fill hfl
      have fj := hp.out.sl.fz fill
      have hf0 : (0 : Int) ≤ (fill : Int) := by omega
      have hf1 : (fill : Int) < 136 := by omega
      have x1 := Bv_xor1
      go_upto_region 9 with (fail)
      have hp2 := Lib.hid (hp.out.set fill 1#8)
      clear hp cj fj c161
      generalize wr.setCell ⟨q2, fill, none⟩ (.int .u8 (Bv 1#8)) = y1 at *
      generalize hp1 : (fun j => if j = fill then 1#8 else if fill ≤ j ∧ j < 136 then 0#8 else pc j) = p1 at *
      have HP1 := Lib.hid hp1
      clear hp1 x1
      have cj : _ = some (Value.int .u8 (Bv _)) := hp2.out.sl.cell 135 (by decide)
      have fj := hp2.out.sl.fz 135
      have x128 := Bv_xor128
      go_upto_region 10 with (fail)
      have hp3 := Lib.hid (hp2.out.set 135 (p1 135 ^^^ 128#8))
      clear hp2 cj fj x128
      generalize y1.setCell ⟨q2, 135, none⟩ (.int .u8 (Bv (p1 135 ^^^ 128#8))) = y2 at *
      generalize hp4 : (fun j => if j = 135 then p1 135 ^^^ 128#8 else p1 j) = p2 at *
      have HP2 := Lib.hid hp4
      clear hp4
      have hld1 : ∀ y, (∃ z : Wd (Hr w q q1 q2 s pc fill p2), y = z.val) → (Instr.loadAt 71 (.pointer (some ⟨q, 0, none⟩))).run Tryd.prog y = .ok (.agg (words s)) y := fun y ⟨z, hz⟩ => by rw [hz]; exact hv_load25 z.ok.sh
      have hld2 : ∀ y, (∃ z : Wd (Hr w q q1 q2 s pc fill p2), y = z.val) → (Instr.loadAt 72 (.pointer (some ⟨q2, 0, none⟩))).run Tryd.prog y = .ok (.agg (tab 136 fun i => bv (p2 i))) y := fun y ⟨z, hz⟩ => by
        rw [hz]; exact load136 z.ok.sl 0 p2 (by decide) (fun j _ => by rw [Nat.zero_add])
      have LD1 := Lib.hid hld1
      have LD2 := Lib.hid hld2
      clear hld1 hld2
      have c1 := fun z : Wd (Hr w q q1 q2 s pc fill p2) => in_of_below z (fun y hb => z.ok.next hb) (absorb_walk hP s p2 z.val z.ok.kt)
      have c2 := fun z : Wd (Hr w q q1 q2 s pc fill p2) => in_of_below z (fun y hb => z.ok.next hb) (digest_walk (absorb s p2) z.val)
      have Q1 := Lib.hid c1
      have Q2 := Lib.hid c2
      clear c1 c2
      have HR2 : Hid (Hr w q q1 q2 s pc fill p2 y2.drew) := Lib.hid hp3.out.drew
      have NE : Nonempty (Wd (Hr w q q1 q2 s pc fill p2)) := ⟨⟨_, HR2.out⟩⟩
      refine wp_region_quiet_tail 7 (Hr w q q1 q2 s pc fill p2) (by kernel_rfl) (by kernel_rfl) HR2.out ?_
      simp only [List.take_succ_cons, List.take_zero, List.drop_succ_cons, List.drop_zero]
      repeat (first
        | (refine wpQuiet_load 71 _ (.pointer (some ⟨q, 0, none⟩)) _ rfl rfl rfl LD1.out ?_; simp only [Act.put, List.setIfInBounds_toArray, List.set_cons_zero, List.set_cons_succ])
        | (refine wpQuiet_load 72 _ (.pointer (some ⟨q2, 0, none⟩)) _ rfl rfl rfl LD2.out ?_; simp only [Act.put, List.setIfInBounds_toArray, List.set_cons_zero, List.set_cons_succ])
        | (go_big_quiet_step (first | with_reducible exact Q1.out _ | with_reducible exact Q2.out _)))
      refine wpQuiet_nil ?_
      rintro _ ⟨z, rfl⟩
      have HSR := Lib.hid z.ok.sr
      go_wp2_with (refine wpList_store_row rfl 24 (.tmp 2) (.tmp 42) rfl q1 (tab 32 fun i => bv (digest (absorb s p2) i)) rfl rfl 24 _ HSR.out (infH _) (by rw [tab_size, tab_size]) (one_bv _ _) ?_)
      have hr : IsTab (World.setRow z.val q1 (tab 32 fun i => bv (digest (absorb s p2) i))) q1 24 32 fun i => bv (digest (absorb s p2) i) := HSR.out.row
      have hbb := below_setRow z.ok.below z.ok.g1 (tab 32 fun i => bv (digest (absorb s p2) i))
      have hfin : absorb s p2 = absorb (st l (l.length / 136)) (last l) := by
        rw [HSt.out]
        refine absorb_cong _ fun j hj => ?_
        rw [← HP2.out, ← HP1.out]
        exact last_is HF.out hfl HPC.out j hj
      have hsum : (tab 32 fun i => bv (sum l i)) = tab 32 fun i => bv (digest (absorb s p2) i) := by rw [hfin]; rfl
      rw [hsum]
      rw [HQ1.out] at hbb ⊢
      exact bodyPost_ret (results_cell_tmp rfl _ _ q1 24 _ (0, 0) _ rfl hr undH rfl (infH _) .nilIface rfl) rfl ⟨rfl, hbb⟩
set_option maxHeartbeats 8000000 in
set_option maxRecDepth 100000 in
theorem hsum_nil (w : World) :
    Calls Tryd.prog 29 #[.pointer none] w fun e w' => e = .returned (.tuple #[.agg (tab 32 fun _ => bv 0#8), .iface 64 (.int .i64 1)]) ∧ Below w.heap.size w w' := by
  have z2 := zeroHash
  generalize hz : (tab 32 fun _ => bv 0#8) = zh at *
  have HZ := Lib.hid hz
  clear hz
  go_enter Tryd.func29, Tryd.ntmps29
  go_upto_region 2 with (fail)
  have h1 : Hid (IsTab (w.alloc (.cells zh 24)) w.heap.size 24 32 (fun _ => bv 0#8) ∧ Below w.heap.size w (w.alloc (.cells zh 24))) := by
    rw [← HZ.out]
    exact Lib.hid ⟨IsTab.new w _ 32 _, (Below.refl _ _).alloc (Nat.le_refl _) _⟩
  generalize w.alloc (.cells zh 24) = w1 at *
  generalize hq1 : w.heap.size = q1 at *
  have HQ1 := Lib.hid hq1
  clear hq1
  have H2 : Hid (w1.heap[q1]? = some (.cells zh 24 (0, 0))) := Lib.hid (by have := h1.out.1; unfold IsTab at this; rw [HZ.out] at this; exact this)
  have hzi : (Tryd.prog.info? 24).map (·.size) = some zh.size := by rw [← HZ.out]; exact infH _
  have HZI := Lib.hid hzi
  clear hzi
  have hzo : zh.all (·.oneCell') = true := by rw [← HZ.out]; exact one_bv _ _
  have HZO := Lib.hid hzo
  clear hzo
  go_wp2_with (refine wpList_store_row rfl 24 (.tmp 2) (.tmp 8) rfl q1 zh rfl rfl 24 zh H2.out HZI.out rfl HZO.out ?_)
  have hr : (World.setRow w1 q1 zh).heap[q1]? = some (.cells zh 24 (0, 0)) := setRow_heap w1 q1 _ _ _ _ H2.out
  have hbb := below_setRow h1.out.2 (Nat.le_refl _) zh
  exact bodyPost_ret (results_cell_tmp rfl _ _ q1 24 _ (0, 0) _ rfl hr undH rfl HZI.out (.iface 64 (.int .i64 1)) rfl) rfl ⟨rfl, by rw [HQ1.out]; exact hbb⟩
theorem add_nil (v : Value) (w : World) :
    Calls Tryd.prog 28 #[.pointer none, v] w fun e w' => e = .returned (.iface 64 (.int .i64 1)) ∧ w = w' := by
  go_enter Tryd.func28, Tryd.ntmps28
  go_wp2_with fail
  go_ret
  exact ⟨rfl, rfl⟩
end Kc
end Go.Proofs.YtkhdamjjbjmeaaaDoor
