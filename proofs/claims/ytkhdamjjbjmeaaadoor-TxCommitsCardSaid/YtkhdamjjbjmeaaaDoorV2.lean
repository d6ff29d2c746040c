/-
  tx: Encode. Own work.
-/
import Derived.Test.YtkhdamjjbjmeaaaDoorV1
import Derived.Deep.CutRange
namespace Go.Proofs.YtkhdamjjbjmeaaaDoor
open Go.ChangeShapes Go.WideShapes Go.Deep Go.RowKit
set_option linter.unusedVariables false
set_option linter.unusedSimpArgs false
namespace Rl
theorem noK4 (w : World) : IsK w none 0 0 .nil := ⟨rfl, Nat.le_refl _, by decide, fun _ => rfl, .inl rfl⟩
theorem noB4 (w : World) : IsB w none 0 0 [] := ⟨rfl, Nat.le_refl _, by decide, fun _ => rfl, .inl rfl⟩
set_option maxHeartbeats 2000000 in
set_option maxRecDepth 100000 in
theorem Number_own (w : World) (v : Nat) (hv : v < 18446744073709551616) :
    Calls Tryd.prog 31 #[.int .u64 v] w fun e w' => ∃ a c, e = .returned (.agg #[.bool false, .slice a (big v).length c, .slice none 0 0]) ∧ IsB (see (fun b => w.heap.size ≤ b) w') a (big v).length c (big v) ∧ Below w.heap.size w w' := by
  have HD := Lib.hid (digits_walk 8 v (by decide) hv (w.alloc (.cells #[.bool false, .slice none 0 0, .slice none 0 0] 79)))
  have HB : Hid (Below w.heap.size w (w.alloc (.cells #[.bool false, .slice none 0 0, .slice none 0 0] 79))) := Lib.hid ((Below.refl _ _).alloc (Nat.le_refl _) _)
  clear hv
  go_enter Tryd.func31, Tryd.ntmps31
  go_wp2_with (go_at_call 49; (with_reducible refine HD.out.mono ?_); rintro e y1 ⟨V, rfl, hO, hb⟩; obtain ⟨a1, c1, rfl, hB1⟩ := hO.isB; have HO := Lib.hid hO; have HL1 := Lib.hid (bl HB.out hb); have g0 := keep1 hb (o := 0) (b := w.heap.size) (x := .bool false) (by simp); have g1 := keep1 hb (o := 1) (b := w.heap.size) (x := .slice none 0 0) (by simp); have g2 := keep1 hb (o := 2) (b := w.heap.size) (x := .slice none 0 0) (by simp); have f0 := keepF hb (b := w.heap.size) (o := 0) (by simp) (by simp); have f1 := keepF hb (b := w.heap.size) (o := 1) (by simp) (by simp); have f2 := keepF hb (b := w.heap.size) (o := 2) (by simp) (by simp); clear hb hO hB1 HD)
  have ho : Own (((y1.setCell ⟨w.heap.size, 0, none⟩ (.bool false)).setCell ⟨w.heap.size, 1, none⟩ (.slice a1 (digs 8 v).length c1)).setCell ⟨w.heap.size, 2, none⟩ (.slice none 0 0)) (w.alloc (.cells #[.bool false, .slice none 0 0, .slice none 0 0] 79)).heap.size (.slice a1 (digs 8 v).length c1) (digs 8 v) :=
    ownsRow_setCell_below (ownsRow_setCell_below (ownsRow_setCell_below HO.out (by simp) _) (by simp) _) (by simp) _
  obtain ⟨a2, c2, e2, hB2⟩ := ho.isBs
  injection e2 with e3 _ e4
  subst e3 e4
  refine bodyPost_ret (v := .agg #[.bool false, .slice a1 (digs 8 v).length c1, .slice none 0 0]) (by simp [results, Tryd.results31, go_sem, g0, g1, g2]) rfl ⟨a1, c1, rfl, hB2.keep (keep_mono fun b _ h => by simp at h; omega), ((HL1.out.setCell (Nat.le_refl _) _).setCell (Nat.le_refl _) _).setCell (Nat.le_refl _) _⟩
/-- Numbers, each an item. -/
def nums : List Nat → Fo
  | [] => .nil
  | v :: r => .cons false (big v) .nil (nums r)
theorem nums_len : ∀ l : List Nat, (nums l).len = l.length
  | [] => rfl
  | v :: r => by show (nums r).len + 1 = r.length + 1; rw [nums_len r]
theorem nums_app : ∀ a b : List Nat, nums (a ++ b) = (nums a).app (nums b)
  | [], b => rfl
  | v :: r, b => by show Fo.cons false (big v) .nil (nums (r ++ b)) = .cons false (big v) .nil ((nums r).app (nums b)); rw [nums_app r b]
theorem nums_next (f : Nat → Nat) (j : Nat) : nums ((List.range (j + 1)).map f) = (nums ((List.range j).map f)).app (.cons false (big (f j)) .nil .nil) := by
  rw [List.range_succ, List.map_append, nums_app]; rfl
theorem nums_right : ∀ l : List Nat, (nums l).right = true
  | [] => rfl
  | v :: r => by show ((Fo.nil.len == 0) && Fo.nil.right && (nums r).right) = true; rw [nums_right r]; rfl
theorem nums_deep : ∀ (l : List Nat) (m : Nat), (nums l).deep (m + 1) = false
  | [], _ => rfl
  | v :: r, m => by show (Fo.nil.deep m || (nums r).deep (m + 1)) = false; rw [nums_deep r m]; rfl
theorem nums_form : ∀ l : List Nat, (nums l).form.length ≤ 17 * l.length
  | [] => Nat.zero_le _
  | v :: r => by
    have h1 := nums_form r
    have h2 := wrap_le false (big v) Fo.nil.form
    have h3 := big_le v
    have h4 : Fo.nil.form.length = 0 := rfl
    show (wrap false (big v) Fo.nil.form ++ (nums r).form).length ≤ 17 * (r.length + 1)
    rw [List.length_append]; omega
theorem nums_enc {l : List Nat} (h : l.length ≤ 200) : encW true [] (nums l) = 0 :=
  enc_zero.2 ⟨nums_deep l 14, rfl, nums_right l, by have h1 := nums_form l; have h2 := wrap_le true [] (nums l).form; simp at h2; omega⟩
/-- A transaction's numbers: may they be; its bytes. -/
def txOk (f : Nat → Nat) : Bool := (List.range 6).all fun i => inOk i (f i)
theorem txOk_iff {f : Nat → Nat} : txOk f = true ↔ ∀ i, i < 6 → inOk i (f i) = true := by simp [txOk]
def txL (f : Nat → Nat) : List Nat := (List.range 6).map f
def txB (f : Nat → Nat) : List Bt := wrap true [] (nums (txL f)).form
theorem txB_le (f : Nat → Nat) : (txB f).length ≤ 120 := by
  have h1 := nums_form (txL f)
  have h2 := wrap_le true [] (nums (txL f)).form
  have h3 : (txL f).length = 6 := by simp [txL]
  unfold txB; simp at h2; omega
abbrev txv (f : Nat → Nat) : Value := .agg #[.int .u64 (f 0), .int .u64 (f 1), .int .u64 (f 2), .int .u64 (f 3), .int .u64 (f 4), .int .u64 (f 5)]
abbrev txo (f : Nat → Nat) : Obj := .cells #[.int .u64 (f 0), .int .u64 (f 1), .int .u64 (f 2), .int .u64 (f 3), .int .u64 (f 4), .int .u64 (f 5)] 36
theorem txo_at (w : World) (f : Nat → Nat) : ∀ i, i < 6 → (w.alloc (txo f)).cell? ⟨w.heap.size, i, none⟩ = some (.int .u64 (f i)) := by
  intro i hi
  match i, hi with
  | 0, _ => simp
  | 1, _ => simp
  | 2, _ => simp
  | 3, _ => simp
  | 4, _ => simp
  | 5, _ => simp
/-- What the loop over the fields keeps. -/
structure Txe (w : World) (f : Nat → Nat) (V : Value) (acc : Fo) (y : World) : Prop where
  below : Below w.heap.size w y
  tx : ∀ i, i < 6 → y.cell? ⟨w.heap.size, i, none⟩ = some (.int .u64 (f i))
  box : Box3 y (w.heap.size + 1) (.bool true) (.slice none 0 0) V
  row : RowI y (w.heap.size + 2) (w.heap.size + 1) V acc
section
variable {w : World} {f : Nat → Nat} {V V' : Value} {acc acc' : Fo} {y y' : World}
theorem Txe.sz (h : Txe w f V acc y) : w.heap.size + 2 ≤ y.heap.size := inHeap h.box.k0
theorem Txe.next (h : Txe w f V acc y) (hb : Below y.heap.size y y') : Txe w f V acc y' := ⟨bl h.below hb, fun i hi => keep1 hb (h.tx i hi), h.box.keep hb, h.row.next hb⟩
theorem Txe.drew (h : Txe w f V acc y) : Txe w f V acc y.drew := h.next (Below.refl _ _).drew
theorem Txe.grownTx (h : Txe w f V acc y) (hg : y.grownBy y' V.ownBlock) (i : Nat) (hi : i < 6) : y'.cell? ⟨w.heap.size, i, none⟩ = some (.int .u64 (f i)) :=
  (grown_cell hg (by have := h.sz; omega) (fun e => by have := (h.row.base e).1; omega)).trans (h.tx i hi)
theorem Txe.put (h : Txe w f V acc y) (hg : y.grownBy y' V.ownBlock) (hr : RowI y' (w.heap.size + 2) (w.heap.size + 1) V' acc') : Txe w f V' acc' (y'.setCell ⟨w.heap.size + 1, 2, none⟩ V') := by
  have hx := h.box.grown hg h.row.1
  refine ⟨(h.below.grown hg h.below.size (fun k hk => by have := (h.row.base hk).1; omega)).setCell (Nat.le_succ _) _, fun i hi => ?_, ?_, hr.set⟩
  · rw [World.cell?_setCell_other _ _ _ _ (fun e => by have := congrArg Addr.block e; simp at this)]; exact h.grownTx hg i hi
  · exact ⟨(World.cell?_setCell_other _ _ _ _ (by simp)).trans hx.k0, (World.cell?_setCell_other _ _ _ _ (by simp)).trans hx.k1, World.cell?_setCell_same _ _ _ hx.k2, by simpa using hx.f0, by simpa using hx.f1, by simpa using hx.f2⟩
end
set_option maxHeartbeats 4000000 in
set_option maxRecDepth 100000 in
/-- Encode of a transaction. -/
theorem txEncode_walk (w : World) (f : Nat → Nat) (hf : ∀ i, i < 6 → f i < 18446744073709551616) :
    Calls Tryd.prog 12 #[txv f] w fun e w' => ∃ V, e = .returned (.tuple #[V, if txOk f then .nilIface else eN 2]) ∧ Own w' w.heap.size V (if txOk f then txB f else []) ∧ Below w.heap.size w w' := by
  have HF := Lib.hid hf
  have HT0 : Hid (Txe w f (.slice none 0 0) .nil ((w.alloc (txo f)).alloc (.cells #[.bool true, .slice none 0 0, .slice none 0 0] 79))) := Lib.hid (by
    have hbx := Box3.new (w.alloc (txo f)) (.bool true) (.slice none 0 0) (.slice none 0 0) 79
    rw [show (w.alloc (txo f)).heap.size = w.heap.size + 1 by simp] at hbx
    exact ⟨bl (ba _ _) (ba _ _), fun i hi => keep1 (ba _ _) (txo_at w f i hi), hbx, RowI.nil _ _ _⟩)
  clear hf
  have HER0 : (txOk f = true → (if txOk f then Value.nilIface else eN 2) = .nilIface ∧ (if txOk f then txB f else []) = txB f) ∧ (txOk f = false → (if txOk f then Value.nilIface else eN 2) = eN 2 ∧ (if txOk f then txB f else []) = []) :=
    ⟨fun h => by rw [h]; exact ⟨rfl, rfl⟩, fun h => by rw [h]; exact ⟨rfl, rfl⟩⟩
  have HER := Lib.hid HER0
  clear HER0
  generalize (if txOk f then Value.nilIface else eN 2) = er at *
  generalize (if txOk f then txB f else []) = R at *
  go_enter Tryd.func12, Tryd.ntmps12
  go_wp2_with (go_at_call 27; (with_reducible refine (fields_walk _ w.heap.size).mono ?_); rintro e y1 ⟨rfl, hb⟩
               have HT1 := Lib.hid (HT0.out.next hb); clear hb HT0)
  go_loopw [9] (fun i y => ∃ (j : Nat) (V : Value), i = .int .i64 j ∧ Hid (j ≤ 6 ∧ (∀ i, i < j → inOk i (f i) = true) ∧ Txe w f V (nums ((List.range j).map f)) y)) (fun i _ => 6 - (intOf i).toNat)
  case atStart => exact ⟨0, _, rfl, Lib.hid ⟨Nat.zero_le _, fun i h => absurd h (Nat.not_lt_zero i), HT1.out⟩⟩
  case round =>
    obtain ⟨j, V, rfl, hp⟩ := hrel
    clear HT1
    by_cases hlt : (j : Int) < 6
    · have HLr := Lib.hid hp.out.2.2
      have HIN := Lib.hid hp.out.2.1
      have HJ := Lib.hid (show j < 6 ∧ wrap64 ((j : Int) + 1) = ((j + 1 : Nat) : Int) by refine ⟨by omega, ?_⟩; unfold wrap64; omega)
      clear hp
      have hcell := HLr.out.tx j HJ.out.1
      have HV := Lib.hid (HF.out j HJ.out.1)
      by_cases hin : inOk j (f j) = true
      · have HOK := Lib.hid (show ∀ i, i < j + 1 → inOk i (f i) = true from fun i hi => by
          by_cases e : i = j
          · rw [e]; exact hin
          · exact HIN.out i (by omega))
        go_upto_region 7 with (first | (refine wpList_six rfl (.tmp 8) (.tmp 9) rfl w.heap.size j HJ.out.1 rfl rfl ?_) | (go_at_call 30; (with_reducible refine (inRange_walk _ j (f j)).mono ?_); rintro e y2 ⟨rfl, rfl⟩; rw [hin]))
        clear hin hcell hlt
        have HLw := Lib.hid HLr.out.drew
        refine wp_region_og (fun y : World => y.cell? ⟨w.heap.size, j, none⟩ = some (.int .u64 (f j))) (.take 0 (.take 2 (.take 3 (.take 4 (.two 1 (.one 5 (.one 6 (.one 7 (.one 8 (.one 9 .done))))) 5 (.two 1 (.one 6 (.one 7 (.one 8 (.one 9 .done)))) 6 (.one 1 (.one 7 (.one 8 (.one 9 .done))))))))))  (by kernel_rfl) (by kernel_rfl) (HLw.out.tx j HJ.out.1) ?_
        generalize World.drew _ = w2 at *
        have HLc := Lib.hid HLw.out
        have HS := Lib.hid (HLc.out.tx j HJ.out.1)
        refine og_tk (some 20) (.pointer (some ⟨w.heap.size + 1, 2, none⟩)) rfl rfl (by go_simp) (fun _ _ => by simp [execOp, go_sem]) ?_
        refine og_tk (some 22) (.pointer (some ⟨w.heap.size, j, none⟩)) rfl rfl (by go_simp) (fun _ _ => by simp [execOp, go_sem]) ?_
        refine og_tk (some 23) (.pointer (some ⟨w.heap.size, j, none⟩)) rfl rfl (by go_simp) (fun _ _ => by simp [execOp, go_sem]) ?_
        refine og_tk (some 24) (.int .u64 (f j)) rfl rfl (by go_simp) (fun y hy => by simp [execOp, go_sem, hy]) ?_
        simp only [Act.put, List.setIfInBounds_toArray, List.set_cons_zero, List.set_cons_succ]
        refine og_two ?_ ?_
        · skip
          refine og_of rfl (by go_simp) fun K hK => ?_
          have x2 := HLc.out.box.k2
          go_simp
          refine hK _ _ HS.out ?_
          try simp only [Act.put, List.setIfInBounds_toArray, List.set_cons_zero, List.set_cons_succ]
          clear hK K x2
          refine og_f rfl (by go_simp) fun K hK => ?_
          go_simp
          refine (Number_own w2 _ HV.out).mono ?_
          rintro r y3 ⟨a3, c3, rfl, hB3, hb⟩
          have HNB := Lib.hid (show ∀ y4, Below y3.heap.size y3 y4 → Keep (see (fun b => w2.heap.size ≤ b) y3) (see (Bes (w.heap.size + 2) (w.heap.size + 1) V) y4) from fun y4 h4 => new_bes HLw.out.row (inHeap HLw.out.box.k0) (by have := HLw.out.sz; omega) h4)
          have HB3 := Lib.hid hB3
          have HLc := Lib.hid (HLc.out.next hb)
          have HS := Lib.hid (HLc.out.tx j HJ.out.1)
          refine hK _ _ HS.out ?_
          try simp only [Act.put, List.setIfInBounds_toArray, List.set_cons_zero, List.set_cons_succ]
          clear hK K hB3 hb
          refine og_f rfl (by go_simp) fun K hK => ?_
          go_simp
          have HLc := Lib.hid (HLc.out.next (ba y3 (.cells #[.bool false, .slice a3 (big (f j)).length c3, .slice none 0 0] 79)))
          have HS := Lib.hid (HLc.out.tx j HJ.out.1)
          refine hK _ _ HS.out ?_
          try simp only [Act.put, List.setIfInBounds_toArray, List.set_cons_zero, List.set_cons_succ]
          clear hK K
          have HB3 := Lib.hid (show IsV (see (Bes (w.heap.size + 2) (w.heap.size + 1) V) (y3.alloc (.cells #[.bool false, .slice a3 (big (f j)).length c3, .slice none 0 0] 79))) (.cons false (big (f j)) .nil .nil) [.bool false, .slice a3 (big (f j)).length c3, .slice none 0 0] from it_news (HB3.out.keep (HNB.out _ (ba _ _))) (noK4 _))
          have HC3 := Lib.hid (three_new y3 (.bool false) (.slice a3 (big (f j)).length c3) (.slice none 0 0) 79)
          generalize y3.alloc (.cells #[.bool false, .slice a3 (big (f j)).length c3, .slice none 0 0] 79) = y4 at *
          refine og_f rfl (by go_simp) fun K hK => ?_
          refine wp_appI (some 27) (.tmp 21) (.tmp 26) rfl rfl (w.heap.size + 2) (w.heap.size + 1) V _ rfl HLc.out.row (HLc.out.sz) (inHeap HLc.out.box.k0) ⟨y3.heap.size, 0, none⟩ false (big (f j)) .nil (.slice a3 (big (f j)).length c3) (.slice none 0 0) 1 rfl HB3.out HC3.out (by rw [nums_len]; have := HJ.out.1; simp; omega) ?_
          intro V5 y5 hr hg hat
          obtain ⟨a6, c6, rfl, _⟩ := hr.isK
          have HC5 := Lib.hid (HLc.out.put hg hr)
          have hx5 := HLc.out.box.grown hg HLc.out.row.1
          have x4 := hx5.k2
          have x5 := hx5.f2
          have HS := Lib.hid (HLc.out.grownTx hg j HJ.out.1)
          refine hK _ _ HS.out ?_
          try simp only [Act.put, List.setIfInBounds_toArray, List.set_cons_zero, List.set_cons_succ]
          clear hK K hr hg hat hx5
          refine og_f rfl (by go_simp) fun K hK => ?_
          go_simp
          refine hK _ _ HS.out ?_
          try simp only [Act.put, List.setIfInBounds_toArray, List.set_cons_zero, List.set_cons_succ]
          clear hK K
          refine og_f rfl (by go_simp) fun K hK => ?_
          go_simp
          have HS := Lib.hid (HC5.out.tx j HJ.out.1)
          refine hK _ _ HS.out ?_
          try simp only [Act.put, List.setIfInBounds_toArray, List.set_cons_zero, List.set_cons_succ]
          clear hK K
          refine og_done (NoPanic.normal ?_)
          clear x4 x5
          go_wp2_with (fail)
          rw [HJ.out.2]
          go_roundw
          case rel => exact ⟨j + 1, _, rfl, Lib.hid ⟨HJ.out.1, HOK.out, by rw [nums_next]; exact HC5.out⟩⟩
          case measure => have := HJ.out.1; show 6 - (j + 1) < 6 - j; omega
        · skip
          refine og_of rfl (by go_simp) fun K hK => ?_
          go_simp
          refine (Number_own w2 _ HV.out).mono ?_
          rintro r y3 ⟨a3, c3, rfl, hB3, hb⟩
          have HNB := Lib.hid (show ∀ y4, Below y3.heap.size y3 y4 → Keep (see (fun b => w2.heap.size ≤ b) y3) (see (Bes (w.heap.size + 2) (w.heap.size + 1) V) y4) from fun y4 h4 => new_bes HLw.out.row (inHeap HLw.out.box.k0) (by have := HLw.out.sz; omega) h4)
          have HB3 := Lib.hid hB3
          have HLc := Lib.hid (HLc.out.next hb)
          have HS := Lib.hid (HLc.out.tx j HJ.out.1)
          refine hK _ _ HS.out ?_
          try simp only [Act.put, List.setIfInBounds_toArray, List.set_cons_zero, List.set_cons_succ]
          clear hK K hB3 hb
          refine og_two ?_ ?_
          · skip
            refine og_of rfl (by go_simp) fun K hK => ?_
            have x2 := HLc.out.box.k2
            go_simp
            refine hK _ _ HS.out ?_
            try simp only [Act.put, List.setIfInBounds_toArray, List.set_cons_zero, List.set_cons_succ]
            clear hK K x2
            refine og_f rfl (by go_simp) fun K hK => ?_
            go_simp
            have HLc := Lib.hid (HLc.out.next (ba y3 (.cells #[.bool false, .slice a3 (big (f j)).length c3, .slice none 0 0] 79)))
            have HS := Lib.hid (HLc.out.tx j HJ.out.1)
            refine hK _ _ HS.out ?_
            try simp only [Act.put, List.setIfInBounds_toArray, List.set_cons_zero, List.set_cons_succ]
            clear hK K
            have HB3 := Lib.hid (show IsV (see (Bes (w.heap.size + 2) (w.heap.size + 1) V) (y3.alloc (.cells #[.bool false, .slice a3 (big (f j)).length c3, .slice none 0 0] 79))) (.cons false (big (f j)) .nil .nil) [.bool false, .slice a3 (big (f j)).length c3, .slice none 0 0] from it_news (HB3.out.keep (HNB.out _ (ba _ _))) (noK4 _))
            have HC3 := Lib.hid (three_new y3 (.bool false) (.slice a3 (big (f j)).length c3) (.slice none 0 0) 79)
            generalize y3.alloc (.cells #[.bool false, .slice a3 (big (f j)).length c3, .slice none 0 0] 79) = y4 at *
            refine og_f rfl (by go_simp) fun K hK => ?_
            refine wp_appI (some 27) (.tmp 21) (.tmp 26) rfl rfl (w.heap.size + 2) (w.heap.size + 1) V _ rfl HLc.out.row (HLc.out.sz) (inHeap HLc.out.box.k0) ⟨y3.heap.size, 0, none⟩ false (big (f j)) .nil (.slice a3 (big (f j)).length c3) (.slice none 0 0) 1 rfl HB3.out HC3.out (by rw [nums_len]; have := HJ.out.1; simp; omega) ?_
            intro V5 y5 hr hg hat
            obtain ⟨a6, c6, rfl, _⟩ := hr.isK
            have HC5 := Lib.hid (HLc.out.put hg hr)
            have hx5 := HLc.out.box.grown hg HLc.out.row.1
            have x4 := hx5.k2
            have x5 := hx5.f2
            have HS := Lib.hid (HLc.out.grownTx hg j HJ.out.1)
            refine hK _ _ HS.out ?_
            try simp only [Act.put, List.setIfInBounds_toArray, List.set_cons_zero, List.set_cons_succ]
            clear hK K hr hg hat hx5
            refine og_f rfl (by go_simp) fun K hK => ?_
            go_simp
            refine hK _ _ HS.out ?_
            try simp only [Act.put, List.setIfInBounds_toArray, List.set_cons_zero, List.set_cons_succ]
            clear hK K
            refine og_f rfl (by go_simp) fun K hK => ?_
            go_simp
            have HS := Lib.hid (HC5.out.tx j HJ.out.1)
            refine hK _ _ HS.out ?_
            try simp only [Act.put, List.setIfInBounds_toArray, List.set_cons_zero, List.set_cons_succ]
            clear hK K
            refine og_done (NoPanic.normal ?_)
            clear x4 x5
            go_wp2_with (fail)
            rw [HJ.out.2]
            go_roundw
            case rel => exact ⟨j + 1, _, rfl, Lib.hid ⟨HJ.out.1, HOK.out, by rw [nums_next]; exact HC5.out⟩⟩
            case measure => have := HJ.out.1; show 6 - (j + 1) < 6 - j; omega
          · skip
            refine og_of rfl (by go_simp) fun K hK => ?_
            go_simp
            have HLc := Lib.hid (HLc.out.next (ba y3 (.cells #[.bool false, .slice a3 (big (f j)).length c3, .slice none 0 0] 79)))
            have HS := Lib.hid (HLc.out.tx j HJ.out.1)
            refine hK _ _ HS.out ?_
            try simp only [Act.put, List.setIfInBounds_toArray, List.set_cons_zero, List.set_cons_succ]
            clear hK K
            have HB3 := Lib.hid (show IsV (see (Bes (w.heap.size + 2) (w.heap.size + 1) V) (y3.alloc (.cells #[.bool false, .slice a3 (big (f j)).length c3, .slice none 0 0] 79))) (.cons false (big (f j)) .nil .nil) [.bool false, .slice a3 (big (f j)).length c3, .slice none 0 0] from it_news (HB3.out.keep (HNB.out _ (ba _ _))) (noK4 _))
            have HC3 := Lib.hid (three_new y3 (.bool false) (.slice a3 (big (f j)).length c3) (.slice none 0 0) 79)
            generalize y3.alloc (.cells #[.bool false, .slice a3 (big (f j)).length c3, .slice none 0 0] 79) = y4 at *
            refine og_f rfl (by go_simp) fun K hK => ?_
            have x2 := HLc.out.box.k2
            go_simp
            refine hK _ _ HS.out ?_
            try simp only [Act.put, List.setIfInBounds_toArray, List.set_cons_zero, List.set_cons_succ]
            clear hK K x2
            refine og_f rfl (by go_simp) fun K hK => ?_
            refine wp_appI (some 27) (.tmp 21) (.tmp 26) rfl rfl (w.heap.size + 2) (w.heap.size + 1) V _ rfl HLc.out.row (HLc.out.sz) (inHeap HLc.out.box.k0) ⟨y3.heap.size, 0, none⟩ false (big (f j)) .nil (.slice a3 (big (f j)).length c3) (.slice none 0 0) 1 rfl HB3.out HC3.out (by rw [nums_len]; have := HJ.out.1; simp; omega) ?_
            intro V5 y5 hr hg hat
            obtain ⟨a6, c6, rfl, _⟩ := hr.isK
            have HC5 := Lib.hid (HLc.out.put hg hr)
            have hx5 := HLc.out.box.grown hg HLc.out.row.1
            have x4 := hx5.k2
            have x5 := hx5.f2
            have HS := Lib.hid (HLc.out.grownTx hg j HJ.out.1)
            refine hK _ _ HS.out ?_
            try simp only [Act.put, List.setIfInBounds_toArray, List.set_cons_zero, List.set_cons_succ]
            clear hK K hr hg hat hx5
            refine og_f rfl (by go_simp) fun K hK => ?_
            go_simp
            refine hK _ _ HS.out ?_
            try simp only [Act.put, List.setIfInBounds_toArray, List.set_cons_zero, List.set_cons_succ]
            clear hK K
            refine og_f rfl (by go_simp) fun K hK => ?_
            go_simp
            have HS := Lib.hid (HC5.out.tx j HJ.out.1)
            refine hK _ _ HS.out ?_
            try simp only [Act.put, List.setIfInBounds_toArray, List.set_cons_zero, List.set_cons_succ]
            clear hK K
            refine og_done (NoPanic.normal ?_)
            clear x4 x5
            go_wp2_with (fail)
            rw [HJ.out.2]
            go_roundw
            case rel => exact ⟨j + 1, _, rfl, Lib.hid ⟨HJ.out.1, HOK.out, by rw [nums_next]; exact HC5.out⟩⟩
            case measure => have := HJ.out.1; show 6 - (j + 1) < 6 - j; omega
      · have hinf : inOk j (f j) = false := by simpa using hin
        have HNO := Lib.hid (show txOk f = false by
          cases h : txOk f
          · rfl
          · exact absurd (txOk_iff.1 h j HJ.out.1) hin)
        have HBL := Lib.hid HLr.out.below
        go_wp2_with (first | (refine wpList_six rfl (.tmp 8) (.tmp 9) rfl w.heap.size j HJ.out.1 rfl rfl ?_) | (go_at_call 30; (with_reducible refine (inRange_walk _ j (f j)).mono ?_); rintro e y2 ⟨rfl, rfl⟩; rw [hinf]))
        rw [(HER.out.2 HNO.out).1, (HER.out.2 HNO.out).2]
        exact bodyPost_ret (v := .tuple #[.slice none 0 0, eN 2]) (by simp [results, Tryd.results12, go_sem, eN]) rfl ⟨_, rfl, Own.nil _ _, HBL.out⟩
    · obtain rfl : j = 6 := by have := hp.out.1; omega
      have HOK := Lib.hid (txOk_iff.2 hp.out.2.1)
      have HLr := Lib.hid hp.out.2.2
      obtain ⟨a5, c5, rfl, hK5⟩ := HLr.out.row.isK
      have HTB : Hid (txB f = wrap true [] (nums ((List.range 6).map f)).form) := Lib.hid rfl
      have hl6 : ((List.range 6).map f).length = 6 := by simp
      generalize (List.range 6).map f = L at *
      have HE := Lib.hid (encode_walk wr true 0 0 _ c5 none a5 [] (nums L) (noB4 _) (hK5.keep (see_keep _ _)) (by have h := (enc_zero.1 (nums_enc (l := L) (by omega))).2.2.2; unfold B30; omega))
      rw [nums_enc (l := L) (by omega)] at HE
      clear hl6
      obtain ⟨k0, k1, k2, _, _, _⟩ := HLr.out.box
      clear hp hK5
      go_wp2_with (go_at_call 32; (with_reducible refine HE.out.mono ?_); rintro e y2 ⟨V7, rfl, hO, hb⟩
                   have HO := Lib.hid hO; have HB2 := Lib.hid (bl HLr.out.below hb); clear hO hb)
      rw [(HER.out.1 HOK.out).1, (HER.out.1 HOK.out).2, HTB.out]
      exact bodyPost_ret (v := .tuple #[V7, .nilIface]) (by simp [results, Tryd.results12, go_sem]) rfl ⟨_, rfl, ownsRow_base HO.out HLr.out.below.size, HB2.out⟩
end Rl
end Go.Proofs.YtkhdamjjbjmeaaaDoor
