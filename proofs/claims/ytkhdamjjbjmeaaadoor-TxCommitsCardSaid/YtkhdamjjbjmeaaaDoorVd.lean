/-
  mootref04: Fields, Right, Encode. Own work.
-/
import Derived.Test.YtkhdamjjbjmeaaaDoorV7
import Derived.Test.YtkhdamjjbjmeaaaDoorJ5
import Derived.Test.YtkhdamjjbjmeaaaDoorJ6
namespace Go.Proofs.YtkhdamjjbjmeaaaDoor
open Go.ChangeShapes Go.WideShapes Go.Deep Go.RowKit
set_option linter.unusedVariables false
set_option linter.unusedSimpArgs false
namespace Rl
set_option maxHeartbeats 2000000 in
set_option maxRecDepth 100000 in
theorem rfields_walk (w : World) (f : Nat → Nat) : Calls Tryd.prog 34 #[txv f] w fun e w' => ∃ g, e = .returned (.slice (some ⟨g, 0, none⟩) 6 6) ∧ w.heap.size ≤ g ∧ g < w'.heap.size ∧ (∀ i, i < 6 → w'.cell? ⟨g, i, none⟩ = some (.int .u64 (f i))) ∧ Below w.heap.size w w' := by
  have C := Lib.hid (txo_at w f)
  have HB := Lib.hid (ba w (txo f))
  have z0 := C.out 0 (by decide)
  have z1 := C.out 1 (by decide)
  have z2 := C.out 2 (by decide)
  have z3 := C.out 3 (by decide)
  have z4 := C.out 4 (by decide)
  have z5 := C.out 5 (by decide)
  go_enter Tryd.func34, Tryd.ntmps34
  go_wp2_with (fail)
  clear z0 z1 z2 z3 z4 z5
  refine bodyPost_ret (v := .slice (some ⟨w.heap.size + 1, 0, none⟩) 6 6) (by simp [results, Tryd.results34, go_sem]) rfl ⟨_, rfl, by omega, by simp, fun i hi => ?_, bl HB.out (ba _ _)⟩
  match i, hi with
  | 0, _ => simp
  | 1, _ => simp
  | 2, _ => simp
  | 3, _ => simp
  | 4, _ => simp
  | 5, _ => simp
set_option maxHeartbeats 2000000 in
set_option maxRecDepth 100000 in
theorem rright_any (w : World) (f : Nat → Nat) : Calls Tryd.prog 33 #[txv f] w fun e w' => e = .returned (.bool (txOk f)) ∧ Below w.heap.size w w' := by
  cases ho : txOk f with
  | true => exact right4_walk w f ho
  | false =>
    have hno : ¬ (f 0 < 64 ∧ f 1 < 64 ∧ f 4 ≤ 96) := fun ⟨a, b, c⟩ => by
      have h : txOk f = true := txOk_iff.2 fun i hi => by
        match i, hi with
        | 0, _ => exact decide_eq_true a
        | 1, _ => exact decide_eq_true b
        | 2, _ => rfl
        | 3, _ => rfl
        | 4, _ => exact decide_eq_true c
        | 5, _ => rfl
      rw [ho] at h; cases h
    have C := Lib.hid (txo_at w f)
    have HB := Lib.hid (ba w (txo f))
    have z0 := C.out 0 (by decide)
    have z1 := C.out 1 (by decide)
    have z4 := C.out 4 (by decide)
    by_cases h0 : f 0 < 64
    · have a0 : (f 0 : Int) < 64 := by omega
      by_cases h1 : f 1 < 64
      · have a1 : (f 1 : Int) < 64 := by omega
        have a4 : ¬ (f 4 : Int) ≤ 96 := by omega
        clear hno h0 h1 ho
        go_enter Tryd.func33, Tryd.ntmps33
        go_wp2_with (fail)
        go_ret
        exact ⟨rfl, HB.out⟩
      · have a1 : ¬ (f 1 : Int) < 64 := by omega
        clear hno h0 h1 ho
        go_enter Tryd.func33, Tryd.ntmps33
        go_wp2_with (fail)
        go_ret
        exact ⟨rfl, HB.out⟩
    · have a0 : ¬ (f 0 : Int) < 64 := by omega
      clear hno h0 ho
      go_enter Tryd.func33, Tryd.ntmps33
      go_wp2_with (fail)
      go_ret
      exact ⟨rfl, HB.out⟩
/-- What the loop over the numbers keeps. -/
structure Txr (w : World) (q qf B : Nat) (f : Nat → Nat) (V : Value) (acc : Fo) (y : World) : Prop where
  below : Below w.heap.size w y
  fld : ∀ i, i < 6 → y.cell? ⟨qf, i, none⟩ = some (.int .u64 (f i))
  box : Box3 y q (.bool true) (.slice none 0 0) V
  row : RowJ y B q V acc
  sz : B ≤ y.heap.size
  nf : qf ≠ q
  qb : q < B
  fb : qf < B
  g : w.heap.size ≤ q
section
variable {w : World} {q qf B : Nat} {f : Nat → Nat} {V V' : Value} {acc acc' : Fo} {y y' : World}
theorem Txr.next (h : Txr w q qf B f V acc y) (hb : Below y.heap.size y y') : Txr w q qf B f V acc y' := ⟨bl h.below hb, fun i hi => keep1 hb (h.fld i hi), h.box.keep hb, h.row.next hb, Nat.le_trans h.sz hb.size, h.nf, h.qb, h.fb, h.g⟩
theorem Txr.grownF (h : Txr w q qf B f V acc y) (hg : y.grownBy y' V.ownBlock) (i : Nat) (hi : i < 6) : y'.cell? ⟨qf, i, none⟩ = some (.int .u64 (f i)) :=
  (grown_cell hg (inHeap (h.fld i hi)) (fun e => by have := (h.row.base e).1; have := h.fb; omega)).trans (h.fld i hi)
theorem Txr.put (h : Txr w q qf B f V acc y) (hg : y.grownBy y' V.ownBlock) (hr : RowJ y' B q V' acc') : Txr w q qf B f V' acc' (y'.setCell ⟨q, 2, none⟩ V') := by
  have hx := h.box.grown hg h.row.1
  refine ⟨(h.below.grown hg h.below.size (fun k hk => by have := (h.row.base hk).1; have := h.g; have := h.qb; omega)).setCell h.g _, fun i hi => ?_, ?_, hr.set, by rw [size_setCell]; exact Nat.le_trans h.sz hg.size, h.nf, h.qb, h.fb, h.g⟩
  · rw [World.cell?_setCell_other _ _ _ _ (fun e => h.nf (congrArg Addr.block e).symm)]; exact h.grownF hg i hi
  · exact ⟨(World.cell?_setCell_other _ _ _ _ (by simp)).trans hx.k0, (World.cell?_setCell_other _ _ _ _ (by simp)).trans hx.k1, World.cell?_setCell_same _ _ _ hx.k2, by simpa using hx.f0, by simpa using hx.f1, by simpa using hx.f2⟩
/-- A text that was made just now lies away from the row and the box. -/
theorem Txr.new_txt (h : Txr w q qf B f V acc y) {a : Option Addr} {n c : Nat} {x : List Bt} (hx : IsB (see (fun b => y.heap.size ≤ b) y') a n c x) : IsB (see (Bes 0 q V) y') a n c x :=
  hx.keep (keep_mono fun b _ hb => ⟨Nat.zero_le _, fun e => by have := inHeap h.box.k0; omega, fun e => by have := (h.row.base e).2; omega⟩)
end
theorem big_own (w : World) (v : Nat) (hv : v < 18446744073709551616) : Calls Tryd.prog 35 #[.int .u64 v] w fun e w' => ∃ a c, e = .returned (.slice a (big v).length c) ∧ IsB (see (fun b => w.heap.size ≤ b) w') a (big v).length c (big v) ∧ Below w.heap.size w w' := by
  refine (big_walk w v hv).mono ?_
  rintro r w' ⟨V, h1, h2, hb⟩
  obtain ⟨a, c, rfl, h3⟩ := h2.isBs
  exact ⟨a, c, h1, h3, hb⟩
set_option maxHeartbeats 4000000 in
set_option maxRecDepth 100000 in
theorem txREncode_walk (w : World) (f : Nat → Nat) (hf : ∀ i, i < 6 → f i < 18446744073709551616) :
    Calls Tryd.prog 13 #[txv f] w fun e w' => ∃ V, e = .returned (.tuple #[V, .int .i64 (if txOk f then 0 else 2)]) ∧ Own w' w.heap.size V (if txOk f then txB f else []) ∧ Below w.heap.size w w' := by
  have HF := Lib.hid hf
  have C0 := Lib.hid (txo_at w f)
  have H0 := Lib.hid (ba w (txo f))
  have HRI := Lib.hid (fun y => rright_any y f)
  clear hf
  have z0 := C0.out 0 (by decide)
  have z1 := C0.out 1 (by decide)
  have z2 := C0.out 2 (by decide)
  have z3 := C0.out 3 (by decide)
  have z4 := C0.out 4 (by decide)
  have z5 := C0.out 5 (by decide)
  cases ho : txOk f with
  | false =>
    rw [ho] at HRI
    clear ho
    show Calls _ _ _ _ fun e w' => ∃ V, e = .returned (.tuple #[V, .int .i64 2]) ∧ Own w' w.heap.size V [] ∧ Below w.heap.size w w'
    go_enter Tryd.func13, Tryd.ntmps13
    go_wp2_with (go_at_call 33; (with_reducible refine (HRI.out _).mono ?_); rintro e y1 ⟨rfl, hb⟩; have H1 := Lib.hid (bl H0.out hb); clear hb)
    exact bodyPost_ret (v := .tuple #[.slice none 0 0, .int .i64 2]) (by simp [results, Tryd.results13, go_sem]) rfl ⟨_, rfl, Own.nil _ _, H1.out⟩
  | true =>
    rw [ho] at HRI
    clear ho
    show Calls _ _ _ _ fun e w' => ∃ V, e = .returned (.tuple #[V, .int .i64 0]) ∧ Own w' w.heap.size V (txB f) ∧ Below w.heap.size w w'
    go_enter Tryd.func13, Tryd.ntmps13
    go_upto_region 5 with (first
      | (go_at_call 33; (with_reducible refine (HRI.out _).mono ?_); rintro e y1 ⟨rfl, hb⟩
         have hba := ba y1 (.cells #[.bool true, .slice none 0 0, .slice none 0 0] 79)
         have H1 := Lib.hid (bl (bl H0.out hb) hba)
         have HX1 := Lib.hid (Box3.new y1 (.bool true) (.slice none 0 0) (.slice none 0 0) 79)
         have HZ1 := Lib.hid (show w.heap.size ≤ y1.heap.size from (bl H0.out hb).size)
         clear z0 z1 z2 z3 z4 z5
         have z0 := keep1 (bl hb hba) (C0.out 0 (by decide))
         have z1 := keep1 (bl hb hba) (C0.out 1 (by decide))
         have z2 := keep1 (bl hb hba) (C0.out 2 (by decide))
         have z3 := keep1 (bl hb hba) (C0.out 3 (by decide))
         have z4 := keep1 (bl hb hba) (C0.out 4 (by decide))
         have z5 := keep1 (bl hb hba) (C0.out 5 (by decide))
         clear hb hba)
      | (go_at_call 34; (with_reducible refine (rfields_walk _ f).mono ?_); rintro e y2 ⟨qf, rfl, hq1, hq2, hc, hb⟩
         have HT2 : Hid (Txr w y1.heap.size qf y2.heap.size f (.slice none 0 0) .nil y2) := Lib.hid (by
           have e1 : (y1.alloc (.cells #[.bool true, .slice none 0 0, .slice none 0 0] 79)).heap.size = y1.heap.size + 1 := by simp
           rw [e1] at hq1
           exact ⟨bl H1.out hb, hc, HX1.out.keep hb, RowJ.nil _ _ _, Nat.le_refl _, by omega, by have := hb.size; rw [e1] at this; omega, hq2, HZ1.out⟩)
         clear hb hq1 hq2 hc z0 z1 z2 z3 z4 z5 HX1))
    clear H1 C0 HRI
    generalize y1.heap.size = q at *
    generalize y2.heap.size = B at *
    go_wp2_with (fail)
    go_loopw [6] (fun i y => ∃ (j : Nat) (V : Value), i = .int .i64 j ∧ Hid (j ≤ 6 ∧ Txr w q qf B f V (nums ((List.range j).map f)) y)) (fun i _ => 6 - (intOf i).toNat)
    case atStart => exact ⟨0, _, rfl, Lib.hid ⟨Nat.zero_le _, HT2.out⟩⟩
    case round =>
      obtain ⟨j, V, rfl, hp⟩ := hrel
      clear HT2
      have HLr := Lib.hid hp.out.2
      by_cases hlt : (j : Int) < 6
      · have HJ := Lib.hid (show j < 6 ∧ wrap64 ((j : Int) + 1) = ((j + 1 : Nat) : Int) by refine ⟨by omega, ?_⟩; unfold wrap64; omega)
        clear hp
        have HBG := Lib.hid (fun y => big_own y (f j) (HF.out j HJ.out.1))
        go_upto_region 8 with (fail)
        have hj6 : j < 6 := HJ.out.1
        have HLw := Lib.hid (HLr.out.next (Below.refl _ _).drew)
        refine wp_region_og (fun y : World => y.cell? ⟨qf, j, none⟩ = some (.int .u64 (f j))) (.take 0 (.take 2 (.take 3 (.take 4 (.take 5 (.two 1 (.one 6 (.one 7 (.one 8 (.one 9 (.one 10 (.one 11 .done)))))) 6 (.two 1 (.one 7 (.one 8 (.one 9 (.one 10 (.one 11 .done))))) 7 (.two 1 (.one 8 (.one 9 (.one 10 (.one 11 .done)))) 8 (.one 1 (.one 9 (.one 10 (.one 11 .done)))))))))))) (by kernel_rfl) (by kernel_rfl) (HLw.out.fld j HJ.out.1) ?_
        generalize World.drew _ = w2 at *
        have HLc := Lib.hid HLw.out
        have HS := Lib.hid (HLc.out.fld j HJ.out.1)
        refine og_tk (some 17) (.pointer (some ⟨q, 2, none⟩)) rfl rfl (by go_simp) (fun _ _ => by simp [execOp, go_sem]) ?_
        refine og_tk (some 19) (.slice (some ⟨qf, 0, none⟩) 6 6) rfl rfl (by go_simp) (fun _ _ => by simp [execOp, go_sem]) ?_
        refine og_tk (some 20) (.int .i64 j) rfl rfl (by go_simp) (fun _ _ => by simp [execOp, go_sem]) ?_
        refine og_tk (some 21) (.pointer (some ⟨qf, j, none⟩)) rfl rfl (by go_simp) (fun _ _ => by simp [execOp, go_sem, hlt, hj6, add_at]) ?_
        refine og_tk (some 22) (.int .u64 (f j)) rfl rfl (by go_simp) (fun y hy => by simp [execOp, go_sem, hy]) ?_
        simp only [Act.put, List.setIfInBounds_toArray, List.set_cons_zero, List.set_cons_succ]
        clear hlt hj6
        refine og_two ?_ ?_
        · skip
          refine og_of rfl (by go_simp) fun K hK => ?_
          have x2 := HLc.out.box.k2
          go_simp
          refine hK _ _ HS.out ?_
          try simp only [Act.put, List.setIfInBounds_toArray, List.set_cons_zero, List.set_cons_succ]
          clear hK K x2
          refine og_f rfl (by go_simp) fun K hK => ?_
          go_simp
          refine (HBG.out w2).mono ?_
          rintro r y3 ⟨a3, c3, rfl, hB3, hb⟩
          have HB3 := Lib.hid (HLc.out.new_txt hB3)
          have HLc := Lib.hid (HLc.out.next hb)
          have HS := Lib.hid (HLc.out.fld j HJ.out.1)
          refine hK _ _ HS.out ?_
          try simp only [Act.put, List.setIfInBounds_toArray, List.set_cons_zero, List.set_cons_succ]
          clear hK K hB3 hb
          refine og_f rfl (by go_simp) fun K hK => ?_
          go_simp
          refine hK _ _ HS.out ?_
          try simp only [Act.put, List.setIfInBounds_toArray, List.set_cons_zero, List.set_cons_succ]
          clear hK K
          refine og_f rfl (by go_simp) fun K hK => ?_
          go_simp
          have HLc := Lib.hid (HLc.out.next (ba y3 (.cells #[.bool false, .slice a3 (big (f j)).length c3, .slice none 0 0] 79)))
          have HS := Lib.hid (HLc.out.fld j HJ.out.1)
          refine hK _ _ HS.out ?_
          try simp only [Act.put, List.setIfInBounds_toArray, List.set_cons_zero, List.set_cons_succ]
          clear hK K
          have HB3 := Lib.hid (show IsV (see (Bes 0 q V) (y3.alloc (.cells #[.bool false, .slice a3 (big (f j)).length c3, .slice none 0 0] 79))) (.cons false (big (f j)) .nil .nil) [.bool false, .slice a3 (big (f j)).length c3, .slice none 0 0] from it_news (HB3.out.keep (see_below (ba _ _))) (noK4 _))
          have HC3 := Lib.hid (three_new y3 (.bool false) (.slice a3 (big (f j)).length c3) (.slice none 0 0) 79)
          generalize y3.alloc (.cells #[.bool false, .slice a3 (big (f j)).length c3, .slice none 0 0] 79) = y4 at *
          refine og_f rfl (by go_simp) fun K hK => ?_
          refine wp_appJ (some 26) (.tmp 18) (.tmp 25) rfl rfl B q V _ rfl HLc.out.row HLc.out.sz (inHeap HLc.out.box.k0) ⟨y3.heap.size, 0, none⟩ false (big (f j)) .nil (.slice a3 (big (f j)).length c3) (.slice none 0 0) 1 rfl HB3.out HC3.out (by rw [nums_len]; have := HJ.out.1; simp; omega) ?_
          intro V5 y5 hr hg hat
          obtain ⟨a6, c6, rfl, _⟩ := hr.isK
          have HC5 := Lib.hid (HLc.out.put hg hr)
          have hx5 := HLc.out.box.grown hg HLc.out.row.1
          have x4 := hx5.k2
          have x5 := hx5.f2
          have HS := Lib.hid (HLc.out.grownF hg j HJ.out.1)
          refine hK _ _ HS.out ?_
          try simp only [Act.put, List.setIfInBounds_toArray, List.set_cons_zero, List.set_cons_succ]
          clear hK K hr hg hat hx5
          refine og_f rfl (by go_simp) fun K hK => ?_
          go_simp
          refine hK _ _ HS.out ?_
          try simp only [Act.put, List.setIfInBounds_toArray, List.set_cons_zero, List.set_cons_succ]
          clear hK K
          refine og_f rfl (by go_simp) fun K hK => ?_
          go_simp
          have HS := Lib.hid (HC5.out.fld j HJ.out.1)
          refine hK _ _ HS.out ?_
          try simp only [Act.put, List.setIfInBounds_toArray, List.set_cons_zero, List.set_cons_succ]
          clear hK K
          refine og_done (NoPanic.normal ?_)
          clear x4 x5
          go_wp2_with (fail)
          try rw [HJ.out.2]
          go_roundw
          case rel => exact ⟨j + 1, _, rfl, Lib.hid ⟨HJ.out.1, by rw [nums_next]; exact HC5.out⟩⟩
          case measure => have := HJ.out.1; show 6 - (j + 1) < 6 - j; omega
        · skip
          refine og_of rfl (by go_simp) fun K hK => ?_
          go_simp
          refine (HBG.out w2).mono ?_
          rintro r y3 ⟨a3, c3, rfl, hB3, hb⟩
          have HB3 := Lib.hid (HLc.out.new_txt hB3)
          have HLc := Lib.hid (HLc.out.next hb)
          have HS := Lib.hid (HLc.out.fld j HJ.out.1)
          refine hK _ _ HS.out ?_
          try simp only [Act.put, List.setIfInBounds_toArray, List.set_cons_zero, List.set_cons_succ]
          clear hK K hB3 hb
          refine og_two ?_ ?_
          · skip
            refine og_of rfl (by go_simp) fun K hK => ?_
            have x2 := HLc.out.box.k2
            go_simp
            refine hK _ _ HS.out ?_
            try simp only [Act.put, List.setIfInBounds_toArray, List.set_cons_zero, List.set_cons_succ]
            clear hK K x2
            refine og_f rfl (by go_simp) fun K hK => ?_
            go_simp
            refine hK _ _ HS.out ?_
            try simp only [Act.put, List.setIfInBounds_toArray, List.set_cons_zero, List.set_cons_succ]
            clear hK K
            refine og_f rfl (by go_simp) fun K hK => ?_
            go_simp
            have HLc := Lib.hid (HLc.out.next (ba y3 (.cells #[.bool false, .slice a3 (big (f j)).length c3, .slice none 0 0] 79)))
            have HS := Lib.hid (HLc.out.fld j HJ.out.1)
            refine hK _ _ HS.out ?_
            try simp only [Act.put, List.setIfInBounds_toArray, List.set_cons_zero, List.set_cons_succ]
            clear hK K
            have HB3 := Lib.hid (show IsV (see (Bes 0 q V) (y3.alloc (.cells #[.bool false, .slice a3 (big (f j)).length c3, .slice none 0 0] 79))) (.cons false (big (f j)) .nil .nil) [.bool false, .slice a3 (big (f j)).length c3, .slice none 0 0] from it_news (HB3.out.keep (see_below (ba _ _))) (noK4 _))
            have HC3 := Lib.hid (three_new y3 (.bool false) (.slice a3 (big (f j)).length c3) (.slice none 0 0) 79)
            generalize y3.alloc (.cells #[.bool false, .slice a3 (big (f j)).length c3, .slice none 0 0] 79) = y4 at *
            refine og_f rfl (by go_simp) fun K hK => ?_
            refine wp_appJ (some 26) (.tmp 18) (.tmp 25) rfl rfl B q V _ rfl HLc.out.row HLc.out.sz (inHeap HLc.out.box.k0) ⟨y3.heap.size, 0, none⟩ false (big (f j)) .nil (.slice a3 (big (f j)).length c3) (.slice none 0 0) 1 rfl HB3.out HC3.out (by rw [nums_len]; have := HJ.out.1; simp; omega) ?_
            intro V5 y5 hr hg hat
            obtain ⟨a6, c6, rfl, _⟩ := hr.isK
            have HC5 := Lib.hid (HLc.out.put hg hr)
            have hx5 := HLc.out.box.grown hg HLc.out.row.1
            have x4 := hx5.k2
            have x5 := hx5.f2
            have HS := Lib.hid (HLc.out.grownF hg j HJ.out.1)
            refine hK _ _ HS.out ?_
            try simp only [Act.put, List.setIfInBounds_toArray, List.set_cons_zero, List.set_cons_succ]
            clear hK K hr hg hat hx5
            refine og_f rfl (by go_simp) fun K hK => ?_
            go_simp
            refine hK _ _ HS.out ?_
            try simp only [Act.put, List.setIfInBounds_toArray, List.set_cons_zero, List.set_cons_succ]
            clear hK K
            refine og_f rfl (by go_simp) fun K hK => ?_
            go_simp
            have HS := Lib.hid (HC5.out.fld j HJ.out.1)
            refine hK _ _ HS.out ?_
            try simp only [Act.put, List.setIfInBounds_toArray, List.set_cons_zero, List.set_cons_succ]
            clear hK K
            refine og_done (NoPanic.normal ?_)
            clear x4 x5
            go_wp2_with (fail)
            try rw [HJ.out.2]
            go_roundw
            case rel => exact ⟨j + 1, _, rfl, Lib.hid ⟨HJ.out.1, by rw [nums_next]; exact HC5.out⟩⟩
            case measure => have := HJ.out.1; show 6 - (j + 1) < 6 - j; omega
          · skip
            refine og_of rfl (by go_simp) fun K hK => ?_
            go_simp
            refine hK _ _ HS.out ?_
            try simp only [Act.put, List.setIfInBounds_toArray, List.set_cons_zero, List.set_cons_succ]
            clear hK K
            refine og_two ?_ ?_
            · skip
              refine og_of rfl (by go_simp) fun K hK => ?_
              have x2 := HLc.out.box.k2
              go_simp
              refine hK _ _ HS.out ?_
              try simp only [Act.put, List.setIfInBounds_toArray, List.set_cons_zero, List.set_cons_succ]
              clear hK K x2
              refine og_f rfl (by go_simp) fun K hK => ?_
              go_simp
              have HLc := Lib.hid (HLc.out.next (ba y3 (.cells #[.bool false, .slice a3 (big (f j)).length c3, .slice none 0 0] 79)))
              have HS := Lib.hid (HLc.out.fld j HJ.out.1)
              refine hK _ _ HS.out ?_
              try simp only [Act.put, List.setIfInBounds_toArray, List.set_cons_zero, List.set_cons_succ]
              clear hK K
              have HB3 := Lib.hid (show IsV (see (Bes 0 q V) (y3.alloc (.cells #[.bool false, .slice a3 (big (f j)).length c3, .slice none 0 0] 79))) (.cons false (big (f j)) .nil .nil) [.bool false, .slice a3 (big (f j)).length c3, .slice none 0 0] from it_news (HB3.out.keep (see_below (ba _ _))) (noK4 _))
              have HC3 := Lib.hid (three_new y3 (.bool false) (.slice a3 (big (f j)).length c3) (.slice none 0 0) 79)
              generalize y3.alloc (.cells #[.bool false, .slice a3 (big (f j)).length c3, .slice none 0 0] 79) = y4 at *
              refine og_f rfl (by go_simp) fun K hK => ?_
              refine wp_appJ (some 26) (.tmp 18) (.tmp 25) rfl rfl B q V _ rfl HLc.out.row HLc.out.sz (inHeap HLc.out.box.k0) ⟨y3.heap.size, 0, none⟩ false (big (f j)) .nil (.slice a3 (big (f j)).length c3) (.slice none 0 0) 1 rfl HB3.out HC3.out (by rw [nums_len]; have := HJ.out.1; simp; omega) ?_
              intro V5 y5 hr hg hat
              obtain ⟨a6, c6, rfl, _⟩ := hr.isK
              have HC5 := Lib.hid (HLc.out.put hg hr)
              have hx5 := HLc.out.box.grown hg HLc.out.row.1
              have x4 := hx5.k2
              have x5 := hx5.f2
              have HS := Lib.hid (HLc.out.grownF hg j HJ.out.1)
              refine hK _ _ HS.out ?_
              try simp only [Act.put, List.setIfInBounds_toArray, List.set_cons_zero, List.set_cons_succ]
              clear hK K hr hg hat hx5
              refine og_f rfl (by go_simp) fun K hK => ?_
              go_simp
              refine hK _ _ HS.out ?_
              try simp only [Act.put, List.setIfInBounds_toArray, List.set_cons_zero, List.set_cons_succ]
              clear hK K
              refine og_f rfl (by go_simp) fun K hK => ?_
              go_simp
              have HS := Lib.hid (HC5.out.fld j HJ.out.1)
              refine hK _ _ HS.out ?_
              try simp only [Act.put, List.setIfInBounds_toArray, List.set_cons_zero, List.set_cons_succ]
              clear hK K
              refine og_done (NoPanic.normal ?_)
              clear x4 x5
              go_wp2_with (fail)
              try rw [HJ.out.2]
              go_roundw
              case rel => exact ⟨j + 1, _, rfl, Lib.hid ⟨HJ.out.1, by rw [nums_next]; exact HC5.out⟩⟩
              case measure => have := HJ.out.1; show 6 - (j + 1) < 6 - j; omega
            · skip
              refine og_of rfl (by go_simp) fun K hK => ?_
              go_simp
              have HLc := Lib.hid (HLc.out.next (ba y3 (.cells #[.bool false, .slice a3 (big (f j)).length c3, .slice none 0 0] 79)))
              have HS := Lib.hid (HLc.out.fld j HJ.out.1)
              refine hK _ _ HS.out ?_
              try simp only [Act.put, List.setIfInBounds_toArray, List.set_cons_zero, List.set_cons_succ]
              clear hK K
              have HB3 := Lib.hid (show IsV (see (Bes 0 q V) (y3.alloc (.cells #[.bool false, .slice a3 (big (f j)).length c3, .slice none 0 0] 79))) (.cons false (big (f j)) .nil .nil) [.bool false, .slice a3 (big (f j)).length c3, .slice none 0 0] from it_news (HB3.out.keep (see_below (ba _ _))) (noK4 _))
              have HC3 := Lib.hid (three_new y3 (.bool false) (.slice a3 (big (f j)).length c3) (.slice none 0 0) 79)
              generalize y3.alloc (.cells #[.bool false, .slice a3 (big (f j)).length c3, .slice none 0 0] 79) = y4 at *
              refine og_f rfl (by go_simp) fun K hK => ?_
              have x2 := HLc.out.box.k2
              go_simp
              refine hK _ _ HS.out ?_
              try simp only [Act.put, List.setIfInBounds_toArray, List.set_cons_zero, List.set_cons_succ]
              clear hK K x2
              refine og_f rfl (by go_simp) fun K hK => ?_
              refine wp_appJ (some 26) (.tmp 18) (.tmp 25) rfl rfl B q V _ rfl HLc.out.row HLc.out.sz (inHeap HLc.out.box.k0) ⟨y3.heap.size, 0, none⟩ false (big (f j)) .nil (.slice a3 (big (f j)).length c3) (.slice none 0 0) 1 rfl HB3.out HC3.out (by rw [nums_len]; have := HJ.out.1; simp; omega) ?_
              intro V5 y5 hr hg hat
              obtain ⟨a6, c6, rfl, _⟩ := hr.isK
              have HC5 := Lib.hid (HLc.out.put hg hr)
              have hx5 := HLc.out.box.grown hg HLc.out.row.1
              have x4 := hx5.k2
              have x5 := hx5.f2
              have HS := Lib.hid (HLc.out.grownF hg j HJ.out.1)
              refine hK _ _ HS.out ?_
              try simp only [Act.put, List.setIfInBounds_toArray, List.set_cons_zero, List.set_cons_succ]
              clear hK K hr hg hat hx5
              refine og_f rfl (by go_simp) fun K hK => ?_
              go_simp
              refine hK _ _ HS.out ?_
              try simp only [Act.put, List.setIfInBounds_toArray, List.set_cons_zero, List.set_cons_succ]
              clear hK K
              refine og_f rfl (by go_simp) fun K hK => ?_
              go_simp
              have HS := Lib.hid (HC5.out.fld j HJ.out.1)
              refine hK _ _ HS.out ?_
              try simp only [Act.put, List.setIfInBounds_toArray, List.set_cons_zero, List.set_cons_succ]
              clear hK K
              refine og_done (NoPanic.normal ?_)
              clear x4 x5
              go_wp2_with (fail)
              try rw [HJ.out.2]
              go_roundw
              case rel => exact ⟨j + 1, _, rfl, Lib.hid ⟨HJ.out.1, by rw [nums_next]; exact HC5.out⟩⟩
              case measure => have := HJ.out.1; show 6 - (j + 1) < 6 - j; omega
      · obtain rfl : j = 6 := by have := hp.out.1; omega
        have HLr := Lib.hid hp.out.2
        obtain ⟨a5, c5, rfl, hK5⟩ := HLr.out.row.isK
        have hlen : (nums ((List.range 6).map f)).len = 6 := by rw [nums_len]; simp
        rw [hlen] at hK5 HLr
        have henc : encW true [] (nums (txL f)) = 0 := nums_enc (by simp [txL])
        have hsm : (wrap true [] (nums (txL f)).form).length < B30 := by
          have h1 := nums_form (txL f)
          have h2 := wrap_le true [] (nums (txL f)).form
          have h3 : (txL f).length = 6 := by simp [txL]
          simp at h2
          unfold B30
          omega
        have HE := Lib.hid (rencode_walk wr true 0 0 6 c5 none a5 [] (nums (txL f)) (noB4 _) hK5 hsm)
        rw [henc, if_pos rfl] at HE
        obtain ⟨k0, k1, k2, _, _, _⟩ := HLr.out.box
        clear hp hK5 henc hlen
        go_wp2_with (go_at_call 36; (with_reducible refine HE.out.mono ?_); rintro e y2 ⟨V7, rfl, hO, hb⟩
                     have HO := Lib.hid hO; have HB2 := Lib.hid (bl HLr.out.below hb); clear hO hb)
        exact bodyPost_ret (v := .tuple #[V7, .int .i64 0]) (by simp [results, Tryd.results13, go_sem]) rfl ⟨_, rfl, ownsRow_base HO.out HLr.out.below.size, HB2.out⟩
end Rl
end Go.Proofs.YtkhdamjjbjmeaaaDoor
