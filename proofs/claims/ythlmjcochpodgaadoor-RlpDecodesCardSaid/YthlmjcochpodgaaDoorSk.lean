/-
  rlp: item, of a list. Own work.
-/
import Derived.Test.YthlmjcochpodgaaDoorSj
namespace Go.Proofs.YthlmjcochpodgaaDoor
open Go.ChangeShapes Go.WideShapes Go.Deep Go.RowKit
set_option linter.unusedVariables false
set_option linter.unusedSimpArgs false
namespace Rl
theorem new_bes {y w' w2 : World} {B q : Nat} {V : Value} {k : Fo} (hr : RowI y B q V k) (hq : q < y.heap.size) (hB : B ≤ y.heap.size) (hb : Below w'.heap.size w' w2) : Keep (see (fun b => y.heap.size ≤ b) w') (see (Bes B q V) w2) :=
  keep_see fun b o v h1 h2 => ⟨⟨by omega, by omega, fun e => by have := (hr.base e).2; omega⟩, keep1 hb h2⟩
theorem three_next (w : World) (o : Obj) (x y z : Value) (t : TypeId) : ∀ j u, [x, y, z][j]? = some u → ((w.alloc o).alloc (.cells #[x, y, z] t)).cell? ((⟨w.heap.size + 1, 0, none⟩ : Addr).add j) = some u := by
  have h := three_new (w.alloc o) x y z t
  rw [show (w.alloc o).heap.size = w.heap.size + 1 by simp] at h
  exact h
/-- What the loop of a list keeps. -/
structure Lst (w : World) (xq : Nat) (V : Value) (acc : Fo) (y : World) : Prop where
  below : Below w.heap.size w y
  res : Box3 y w.heap.size (.bool false) (.slice none 0 0) (.slice none 0 0)
  box : Box3 y xq (.bool true) (.slice none 0 0) V
  row : RowI y (w.heap.size + 1) xq V acc
  ne : w.heap.size < xq
theorem Lst.next {w : World} {xq : Nat} {V : Value} {acc : Fo} {y y' : World} (h : Lst w xq V acc y) (hb : Below y.heap.size y y') : Lst w xq V acc y' :=
  ⟨bl h.below hb, h.res.keep hb, h.box.keep hb, h.row.next hb, h.ne⟩
theorem RowI.set {w : World} {B q : Nat} {V : Value} {k : Fo} {v : Value} {i : Nat} (h : RowI w B q V k) : RowI (w.setCell ⟨q, i, none⟩ v) B q V k := by
  obtain ⟨h0, xs, h1, h2⟩ := h
  refine ⟨h0, xs, ?_, h2.keep (keep_see fun b o x g1 g2 => ⟨g1, ?_⟩) k xs⟩
  · refine ⟨h1.1, h1.2.imp id ?_⟩
    rintro ⟨g, cap, cur, e1, e2, e3, e4⟩
    refine ⟨g, cap, cur, e1, e2, ?_, e4⟩
    rw [Below.heap_setCell _ _ _ _ (show g ≠ q from fun e => h0 (by rw [e1, ← e]; rfl))]; exact e3
  · rw [World.cell?_setCell_other _ _ _ _ (fun e => g1.2.1 (congrArg Addr.block e).symm)]; exact g2
theorem Lst.put {w : World} {xq : Nat} {V V' : Value} {acc acc' : Fo} {y y' : World} (h : Lst w xq V acc y) (hg : y.grownBy y' V.ownBlock) (hr : RowI y' (w.heap.size + 1) xq V' acc') : Lst w xq V' acc' (y'.setCell ⟨xq, 2, none⟩ V') := by
  have hx := h.box.grown hg h.row.1
  have hne := h.ne
  have hq : V.ownBlock ≠ some w.heap.size := fun e => by have := (h.row.base e).1; omega
  have hs := h.res.grown hg hq
  refine ⟨(h.below.grown hg h.below.size (fun k hk => by have := (h.row.base hk).1; omega)).setCell (Nat.le_of_lt hne) _, ?_, ?_, hr.set, hne⟩
  · have ho : ∀ i, (y'.setCell ⟨xq, 2, none⟩ V').cell? ⟨w.heap.size, i, none⟩ = y'.cell? ⟨w.heap.size, i, none⟩ := fun i => World.cell?_setCell_other _ _ _ _ (fun e => by have := congrArg Addr.block e; simp at this; omega)
    exact ⟨(ho 0).trans hs.k0, (ho 1).trans hs.k1, (ho 2).trans hs.k2, by simpa using hs.f0, by simpa using hs.f1, by simpa using hs.f2⟩
  · exact ⟨(World.cell?_setCell_other _ _ _ _ (by simp)).trans hx.k0, (World.cell?_setCell_other _ _ _ _ (by simp)).trans hx.k1, World.cell?_setCell_same _ _ _ hx.k2, by simpa using hx.f0, by simpa using hx.f1, by simpa using hx.f2⟩
theorem w64 {a b c : Nat} (h : a + b = c) (hc : c ≤ 4096) : wrap64 ((a : Int) + b) = (c : Int) := by subst h; unfold wrap64; omega
set_option maxHeartbeats 4000000 in
set_option maxRecDepth 100000 in
theorem item_list (w : World) (b o i e c d s n F p q : Nat) (bs : List Bt) (hc : e ≤ c) (hd : d < 16) (hi : i < e) (he : e ≤ bs.length) (hN : bs.length ≤ 4096) (hp : i + s = p) (hq : p + n = q) (hqe : q ≤ e) (hF : 2 * (q - p) + 2 ≤ F)
    (hh : ∀ y, Below w.heap.size w y → Calls Tryd.prog 43 #[.slice (some ⟨b, o + i, none⟩) (e - i) (c - i)] y fun r w' => r = .returned (.tuple #[hv true s n, .nilIface]) ∧ Below y.heap.size y w')
    (ih : ∀ (y : World) (j f' : Nat), Below w.heap.size w y → j < q → 2 * (q - j) + 1 ≤ f' → f' < F → Calls Tryd.prog 31 #[.slice (some ⟨b, o, none⟩) q c, .int .i64 j, .int .i64 (d + 1 : Nat)] y fun r w' => itOut y.heap.size w' (one bs f' j q (d + 1)) r ∧ Below y.heap.size y w') :
    Calls Tryd.prog 31 #[.slice (some ⟨b, o, none⟩) e c, .int .i64 i, .int .i64 d] w fun r w' => itOut w.heap.size w' (toOne q (items bs F p q (d + 1))) r ∧ Below w.heap.size w w' := by
  have h1 : decide ((16 : Int) ≤ d) = false := by simp; omega
  have h2 : (i : Int) ≤ e := by omega
  have h3 : (e : Int) ≤ c := by omega
  have h4 : ¬ c = i := by omega
  have HH := Lib.hid hh
  have HI := Lib.hid ih
  have HB0 : Hid (Below w.heap.size w (w.alloc (.cells #[.bool false, .slice none 0 0, .slice none 0 0] 25))) := Lib.hid ((Below.refl _ _).alloc (Nat.le_refl _) _)
  have HN := Lib.hid (show p ≤ q ∧ q ≤ bs.length ∧ q ≤ c ∧ q ≤ 4096 ∧ i < e ∧ q ≤ e by omega)
  have hd1 : d + 1 ≤ 4096 := by omega
  have hw1 : wrap64 ((i : Int) + s) = (p : Int) := w64 hp (Nat.le_trans HN.out.1 HN.out.2.2.2.1)
  have hw2 : wrap64 ((p : Int) + n) = (q : Int) := w64 hq HN.out.2.2.2.1
  have hw3 : wrap64 ((d : Int) + 1) = ((d + 1 : Nat) : Int) := w64 rfl hd1
  have HF := Lib.hid hF
  have HW3 := Lib.hid hw3
  clear hd1 hd hh ih hi he hN hp hq hqe hF hc hw3
  go_enter Tryd.func31, Tryd.ntmps31
  go_upto_region 11 with (go_at_call 43; (with_reducible refine (HH.out _ HB0.out).mono ?_); rintro r y1 ⟨rfl, hb⟩; have H1 := Lib.hid (bl HB0.out hb)
                          have X1 := Lib.hid (((Box3.new w (.bool false) (.slice none 0 0) (.slice none 0 0) 25).keep hb).keep (ba y1 (.cells #[.bool true, .int .i64 s, .int .i64 n] 83)))
                          unfold hv; clear hb HH)
  rw [hw1, hw2]
  clear hw1 hw2 h1 h4 h2 h3
  have HL : Hid (Lst w (y1.heap.size + 1) (.slice none 0 0) .nil ((y1.alloc (.cells #[.bool true, .int .i64 s, .int .i64 n] 83)).alloc (.cells #[.bool true, .slice none 0 0, .slice none 0 0] 25))) := Lib.hid (by
    have hz := inHeap X1.out.k0
    simp at hz
    have hn := Box3.new (y1.alloc (.cells #[.bool true, .int .i64 s, .int .i64 n] 83)) (.bool true) (.slice none 0 0) (.slice none 0 0) 25
    simp at hn
    exact ⟨bl (bl H1.out (ba _ _)) (ba _ _), X1.out.keep (ba _ _), hn, RowI.nil _ _ _, by omega⟩)
  generalize (y1.alloc (.cells #[.bool true, .int .i64 s, .int .i64 n] 83)).alloc (.cells #[.bool true, .slice none 0 0, .slice none 0 0] 25) = y2 at *
  clear X1 HB0
  go_loopw [11] (fun t y => ∃ (j f' : Nat) (acc : Fo) (V : Value), t = .int .i64 j ∧ Hid (j ≤ q ∧ acc.len ≤ j ∧ 2 * (q - j) + 2 ≤ f' ∧ f' ≤ F ∧ items bs F p q (d + 1) = glue acc (items bs f' j q (d + 1)) ∧ Lst w (y1.heap.size + 1) V acc y)) (fun t _ => q - (intOf t).toNat)
  case atStart => exact ⟨p, F, .nil, _, rfl, Lib.hid ⟨HN.out.1, Nat.zero_le _, HF.out, Nat.le_refl _, (glue_nil _).symm, HL.out⟩⟩
  case round =>
    obtain ⟨j, f', acc, V, rfl, hp⟩ := hrel
    clear HL HF
    by_cases hlt : (j : Int) < (q : Int)
    · obtain ⟨f', rfl⟩ : ∃ g, f' = g + 1 := ⟨f' - 1, by have := hp.out.2.2.1; omega⟩
      have HC := Lib.hid (HI.out wr j f' hp.out.2.2.2.2.2.below (by omega) (by have := hp.out.2.2.1; omega) (by have := hp.out.2.2.2.1; omega))
      have HJ := Lib.hid (show j < q by omega)
      have hq0 : (0 : Int) ≤ (q : Int) := by omega
      have hq1 : (q : Int) ≤ (c : Int) := by have := HN.out; omega
      cases hone : one bs f' j q (d + 1) with
      | bad p' k =>
        have HE := Lib.hid (show items bs F p q (d + 1) = .bad p' k by rw [hp.out.2.2.2.2.1, items_bad HJ.out hone]; rfl)
        rw [hone] at HC
        clear hone HJ
        have HLs := Lib.hid hp.out.2.2.2.2.2
        clear hp
        go_wp2_with (go_at_call 31; rw [HW3.out]; (with_reducible refine HC.out.mono ?_); rintro r y3 ⟨⟨_, rfl, q2, rfl, hq2, hc1, hc2⟩, hb⟩
                     have HLn := Lib.hid (HLs.out.next hb)
                     have HQ2 := Lib.hid (And.intro hq2 (And.intro hc1 hc2))
                     obtain ⟨k0, k1, k2, f0, f1, f2⟩ := HLn.out.res.keep (ba _ (.cells #[.bool false, .slice none 0 0, .slice none 0 0] 25))
                     unfold zIt
                     clear HC hq2 hc1 hc2 hb)
        have X := (Box3.mk k0 k1 k2 f0 f1 f2).put (.bool false) (.slice none 0 0) (.slice none 0 0)
        have hz := inHeap HLs.out.res.k0
        have hs := HLs.out.below.size
        refine bodyPost_ret (v := .tuple #[zIt, .int .i64 0, .iface 65 (.pointer (some ⟨q2, 0, none⟩))]) (by simp [results, Tryd.results31, go_sem, zIt, X.k0, X.k1, X.k2]) rfl ⟨?_, put3_below (bl HLn.out.below (ba _ _)) (Nat.le_refl _)⟩
        rw [HE.out]
        refine ⟨_, rfl, q2, rfl, Nat.le_trans hs HQ2.out.1, ?_, ?_⟩
        · rw [put3_other _ _ _ _ _ (by have := HQ2.out.1; omega)]; exact keep1 (ba _ _) HQ2.out.2.1
        · rw [put3_other _ _ _ _ _ (by have := HQ2.out.1; omega)]; exact keep1 (ba _ _) HQ2.out.2.2
      | ok l x k j' =>
        rw [hone] at HC
        have hnx := one_next HJ.out HN.out.2.1 hone
        have HE := Lib.hid (show items bs F p q (d + 1) = glue (acc.app (.cons l x k .nil)) (items bs f' j' q (d + 1)) by rw [hp.out.2.2.2.2.1, items_ok HJ.out hone, glue_glue])
        have HP := Lib.hid (show j' ≤ q ∧ (acc.app (.cons l x k .nil)).len ≤ j' ∧ 2 * (q - j') + 2 ≤ f' ∧ f' ≤ F ∧ acc.len + 1 ≤ 1073741824 ∧ q - j' < q - j by
          have h1 := hp.out.1
          have h2 := hp.out.2.1
          have h3 := hp.out.2.2.1
          have h4 := hp.out.2.2.2.1
          have h5 := HN.out.2.2.2.1
          have e1 : (Fo.cons l x k .nil).len = 1 := rfl
          rw [Fo.app_len, e1]
          refine ⟨hnx.2, ?_, ?_, ?_, ?_, ?_⟩ <;> omega)
        have HLs := Lib.hid hp.out.2.2.2.2.2
        clear hp hone HJ hnx
        go_wp2_with (first
          | (go_at_call 31; rw [HW3.out]; (with_reducible refine HC.out.mono ?_); rintro r y3 ⟨⟨a3, n3, c3, a4, n4, c4, rfl, hB3, hK3⟩, hb⟩
             have HB3 := Lib.hid hB3
             have HK3 := Lib.hid hK3
             have HL3 := Lib.hid ((HLs.out.next hb).next (ba _ (.cells #[.bool l, .slice a3 n3 c3, .slice a4 n4 c4] 25)))
             have x2 := HL3.out.box.k2
             clear HC hB3 hK3 hb hlt)
          | (refine wpList_appI rfl (.tmp 78) (.tmp 80) rfl (w.heap.size + 1) (y1.heap.size + 1) V acc rfl (HL3.out.next (ba _ (.cells #[.bool l, .slice a3 n3 c3, .slice a4 n4 c4] 25))).row (by have := inHeap HL3.out.res.k0; simp at this ⊢; omega) (by have := inHeap HL3.out.box.k0; simp at this ⊢; omega) ⟨y3.heap.size + 1, 0, none⟩ l x k (.slice a3 n3 c3) (.slice a4 n4 c4) 1 rfl
               (it_news (HB3.out.keep (new_bes HLs.out.row (inHeap HLs.out.box.k0) (inHeap HLs.out.res.k0) (bl (ba _ _) (ba _ _)))) (HK3.out.keep (new_bes HLs.out.row (inHeap HLs.out.box.k0) (inHeap HLs.out.res.k0) (bl (ba _ _) (ba _ _))))) (three_next _ _ _ _ _ _) HP.out.2.2.2.2.1 ?_
             intro V' y4 hr hg hat
             obtain ⟨a6, c6, rfl, _⟩ := hr.isK
             have HL4 := Lib.hid ((HL3.out.next (ba _ (.cells #[.bool l, .slice a3 n3 c3, .slice a4 n4 c4] 25))).put hg hr)
             have hx4 := ((HL3.out.next (ba _ (.cells #[.bool l, .slice a3 n3 c3, .slice a4 n4 c4] 25))).box.grown hg HL3.out.row.1)
             have x4 := hx4.k2
             have x5 := hx4.f2
             clear hx4 hr hg hat x2 HL3))
        go_roundw
        case rel => exact ⟨j', f', _, _, rfl, Lib.hid ⟨HP.out.1, HP.out.2.1, HP.out.2.2.1, HP.out.2.2.2.1, HE.out, HL4.out⟩⟩
        case measure => exact HP.out.2.2.2.2.2
    · obtain ⟨k0, k1, k2, f0, f1, f2⟩ := hp.out.2.2.2.2.2.res
      obtain ⟨a5, c5, rfl, hK5⟩ := hp.out.2.2.2.2.2.row.isK
      have x0 := hp.out.2.2.2.2.2.box.k0
      have x1 := hp.out.2.2.2.2.2.box.k1
      have x2 := hp.out.2.2.2.2.2.box.k2
      have HE := Lib.hid (show items bs F p q (d + 1) = .ok acc by
        obtain ⟨f', rfl⟩ : ∃ g, f' = g + 1 := ⟨f' - 1, by have := hp.out.2.2.1; omega⟩
        rw [hp.out.2.2.2.2.1, items_end (by omega)]
        show Rn.ok (acc.app .nil) = _
        rw [Fo.app_nil])
      have HB := Lib.hid (And.intro hp.out.2.2.2.2.2.below hK5)
      clear hp hK5
      go_wp2_with (fail)
      have X := (Box3.mk k0 k1 k2 f0 f1 f2).put (.bool true) (.slice none 0 0) (.slice a5 acc.len c5)
      refine bodyPost_ret (v := .tuple #[.agg #[.bool true, .slice none 0 0, .slice a5 acc.len c5], .int .i64 q, .nilIface]) (by simp [results, Tryd.results31, go_sem, X.k0, X.k1, X.k2]) rfl ⟨?_, put3_below HB.out.1 (Nat.le_refl _)⟩
      rw [HE.out]
      exact ⟨none, 0, 0, a5, _, c5, rfl, ⟨rfl, Nat.le_refl _, by decide, fun _ => rfl, .inl rfl⟩, HB.out.2.keep (put3_up _ _ _ _ _)⟩
/-- item reads what stands there. -/
theorem item_walk : ∀ (f : Nat) (w : World) (b o i e c d : Nat) (bs : List Bt), IsB w (some ⟨b, o, none⟩) bs.length c bs → e ≤ bs.length → bs.length ≤ 4096 → i < e → d ≤ 16 → 2 * (e - i) + 1 ≤ f →
    Calls Tryd.prog 31 #[.slice (some ⟨b, o, none⟩) e c, .int .i64 i, .int .i64 d] w fun r w' => itOut w.heap.size w' (one bs f i e d) r ∧ Below w.heap.size w w' := by
  intro f
  induction f using Nat.strongRecOn with
  | _ f ih =>
    intro w b o i e c d bs hB he hN hi hdd hf
    obtain ⟨f, rfl⟩ : ∃ g, f = g + 1 := ⟨f - 1, by omega⟩
    by_cases h16 : 16 ≤ d
    · rw [one_deep h16]
      exact item_deep w _ i d h16
    · have hc := hB.2.1
      have hsub : ∀ y, Below w.heap.size w y → IsB y (some ⟨b, o + i, none⟩) (e - i) (c - i) (slc bs i (e - i)) := fun y hy => (hB.sub (i := i) (m := e - i) (by omega)).keep (keep_below hy)
      have hho : ∀ y, Below w.heap.size w y → Calls Tryd.prog 43 #[.slice (some ⟨b, o + i, none⟩) (e - i) (c - i)] y fun r w' => ∃ v, r = .returned v ∧ hOut (hd bs i e) v ∧ Below y.heap.size y w' := fun y hy => by
        have := headOf_walk y (e - i) (c - i) b (o + i) _ (hsub y hy) (by omega) (by omega)
        rw [hd_slc hi] at this; exact this
      have hBe : IsB w (some ⟨b, o, none⟩) e c (slc bs 0 e) := by
        have := hB.sub (i := 0) (m := e) (by omega)
        simpa using this
      cases hh : hd bs i e with
      | bad k =>
        rw [one_bad (by omega) hh]
        rw [hh] at hho
        exact item_bad w b o i e c d (by omega) hi (by omega) k fun y hy => (hho y hy).mono fun r w' ⟨v, h1, ⟨l, h2⟩, h3⟩ => ⟨⟨l, by rw [h1, h2]⟩, h3⟩
      | ok l s n =>
        rw [hh] at hho
        obtain ⟨g1, g2, g3⟩ := hd_ok hi he hh
        cases l with
        | false =>
          rw [one_text (by omega) hh]
          have := item_text w b o i e c d s n _ hBe (by omega) hi (by omega) g1 fun y hy => (hho y hy).mono fun r w' ⟨v, h1, h2, h3⟩ => ⟨by rw [h1, show v = _ from h2], h3⟩
          rw [slc_in (by omega), Nat.zero_add] at this
          exact this
        | true =>
          rw [one_list (by omega) hh]
          have g4 := hd_skip hh
          exact item_list w b o i e c d s n f (i + s) (i + s + n) bs (by omega) (by omega) hi he hN rfl rfl g1 (by omega) (fun y hy => (hho y hy).mono fun r w' ⟨v, h1, h2, h3⟩ => ⟨by rw [h1, show v = _ from h2], h3⟩)
            fun y j f' hy hj hf1 hf2 => ih f' (by omega) y b o j (i + s + n) c (d + 1) bs (hB.keep (keep_below hy)) (by omega) hN hj (by omega) hf1
end Rl
end Go.Proofs.YthlmjcochpodgaaDoor
