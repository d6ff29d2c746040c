/-
  RlpEncodes. Own work.
-/
import Derived.Test.YthlmjcochpodgaaDoorSa
namespace Go.Proofs.YthlmjcochpodgaaDoor
open Go.ChangeShapes Go.WideShapes Go.Deep Go.RowKit
set_option linter.unusedVariables false
set_option linter.unusedSimpArgs false
namespace Rl
/-- What the loop over the form's bytes keeps. -/
structure Inc (w : World) (g N j B9 zq : Nat) (l : Bool) (s1 s2 : Value) (a3 : Option Addr) (n3 c3 : Nat) (a4 : Option Addr) (n4 c4 : Nat) (bs : List Bt) (k : Fo) (y : World) : Prop where
  below : Below w.heap.size w y
  box : Box3 y w.heap.size (.bool l) s1 s2
  cp : Box3 y zq (.bool l) (.slice a3 n3 c3) (.slice a4 n4 c4)
  bytes : IsB (see (fun b => B9 ≤ b) y) a3 n3 c3 bs
  kids : IsK (see (fun b => B9 ≤ b) y) a4 n4 c4 k
  row : ∀ i, j ≤ i → i < N → ∃ v : Bt, y.cell? ⟨g, i, none⟩ = some (bvb v) ∧ y.frozen? ⟨g, i, none⟩ = false
  g0 : w.heap.size < g
  g1 : g < B9
  g2 : B9 ≤ zq
theorem Inc.set {w : World} {g N j B9 zq : Nat} {l : Bool} {s1 s2 : Value} {a3 : Option Addr} {n3 c3 : Nat} {a4 : Option Addr} {n4 c4 : Nat} {bs : List Bt} {k : Fo} {y : World} (h : Inc w g N j B9 zq l s1 s2 a3 n3 c3 a4 n4 c4 bs k y) (v : Value) : Inc w g N (j + 1) B9 zq l s1 s2 a3 n3 c3 a4 n4 c4 bs k (y.setCell ⟨g, j, none⟩ v) := by
  have h0 := h.g0
  have h1 := h.g1
  have h2 := h.g2
  have ho : ∀ p i, p ≠ g → (y.setCell ⟨g, j, none⟩ v).cell? ⟨p, i, none⟩ = y.cell? ⟨p, i, none⟩ := fun p i hp => World.cell?_setCell_other _ _ _ _ (fun e => hp (congrArg Addr.block e).symm)
  have hk : Keep (see (fun b => B9 ≤ b) y) (see (fun b => B9 ≤ b) (y.setCell ⟨g, j, none⟩ v)) := keep_see fun b o x g1 g2 => ⟨g1, by rw [ho b o (by omega)]; exact g2⟩
  refine ⟨h.below.setCell (Nat.le_of_lt h0) _, ?_, ?_, h.bytes.keep hk, h.kids.keep hk, fun i h3 h4 => ?_, h0, h1, h2⟩
  · have b := h.box
    exact ⟨(ho _ 0 (by omega)).trans b.k0, (ho _ 1 (by omega)).trans b.k1, (ho _ 2 (by omega)).trans b.k2, by simpa using b.f0, by simpa using b.f1, by simpa using b.f2⟩
  · have b := h.cp
    exact ⟨(ho _ 0 (by omega)).trans b.k0, (ho _ 1 (by omega)).trans b.k1, (ho _ 2 (by omega)).trans b.k2, by simpa using b.f0, by simpa using b.f1, by simpa using b.f2⟩
  · obtain ⟨x, h5, h6⟩ := h.row i (by omega) h4
    refine ⟨x, ?_, by simpa using h6⟩
    rw [World.cell?_setCell_other _ _ _ _ (fun e => by have := congrArg Addr.off e; simp at this; omega)]; exact h5
/-- The cells of a row of the call's own. -/
theorem Own.cells_at {w : World} {B n c : Nat} {a : Addr} {bs : List Bt} (h : Own w B (.slice (some a) n c) bs) : ∃ g, a = ⟨g, 0, none⟩ ∧ B ≤ g ∧ g < w.heap.size ∧ ∀ i, i < bs.length → ∃ v : Bt, w.cell? ⟨g, i, none⟩ = some (bvb v) ∧ w.frozen? ⟨g, i, none⟩ = false := by
  have hb := h.asB
  rcases h.2 with ⟨e, _⟩ | ⟨g, cap, cur, e, hg, hc, _⟩
  · cases e
  · injection e with e1 e2 e3
    injection e1 with e1
    subst e1
    refine ⟨g, rfl, hg, (Array.getElem?_eq_some_iff.1 hc).1, fun i hi => ?_⟩
    rcases hb.2.2.2.2 with h0 | ⟨b, o, e4, h5⟩
    · have := hb.1; omega
    · injection e4 with e4
      injection e4 with e5 e6
      subst e5 e6
      refine ⟨bs[i], ?_, ?_⟩
      · have := h5 i bs[i] (List.getElem?_eq_getElem hi)
        simpa using this
      · simp [World.frozen?, hc]
set_option maxHeartbeats 4000000 in
set_option maxRecDepth 100000 in
theorem rlpEncodes_walk (w : World) (l : Bool) (n c n' c' : Nat) (a a' : Option Addr) (bs : List Bt) (k : Fo) (hB : IsB w a n c bs) (hK : IsK w a' n' c' k) (hl : bs.length ≤ reachBytes) (hf : k.fit) (hg : Et w) :
    Calls Tryd.prog 7 #[.agg #[.bool l, .slice a n c, .slice a' n' c']] w fun e w' => e = .returned (.bool true) ∧ Below w.heap.size w w' := by
  have HB0 := Lib.hid (ba w (.cells #[.bool l, .slice a n c, .slice a' n' c'] 25))
  have HX0 := Lib.hid (Box3.new w (.bool l) (.slice a n c) (.slice a' n' c') 25)
  have HG := Lib.hid hg
  have HBB := Lib.hid hB
  have HK := Lib.hid hK
  have HGR := Lib.hid (great_here _ l n c n' c' a a' bs k (hB.keep (keep_below HB0.out)) (hK.keep (keep_below HB0.out)) hl hf)
  clear hB hK hl hf hg
  cases hG : great bs.length k with
  | true =>
    rw [hG] at HGR
    clear hG
    go_enter Tryd.func7, Tryd.ntmps7
    go_wp2_with (first
      | (go_at_call 16; (with_reducible refine HGR.out.mono ?_); rintro e y1 ⟨rfl, hb⟩; have H1 := Lib.hid (bl HB0.out hb); clear hb HGR)
      | (go_at_call 15; (with_reducible refine (fixed_walk _ (HG.out.next H1.out)).mono ?_); rintro e y2 ⟨rfl, hb⟩; have H2 := Lib.hid (bl H1.out hb); clear hb))
    go_ret
    exact ⟨rfl, H2.out⟩
  | false =>
    rw [hG] at HGR
    have HGF := Lib.hid hG
    have HE := Lib.hid (fun y n c n' c' a a' hB hK => encode_walk y l n c n' c' a a' bs k hB hK (great_form hG))
    have HRE := Lib.hid (fun y n c n' c' a a' hB hK => rencode_walk y l n c n' c' a a' bs k hB hK (great_form hG))
    clear hG
    have hRN : (if encW l bs k = 0 then wrap l bs k.form else []).length ≤ 4096 := by
      split
      · rename_i h; exact (enc_zero.1 h).2.2.2
      · simp
    generalize (if encW l bs k = 0 then wrap l bs k.form else []) = R at *
    generalize encW l bs k = E at *
    have HWY := Lib.hid (fun y => why_of y E)
    generalize (if E = 0 then Value.nilIface else eN E) = er at *
    obtain ⟨N, hN⟩ : ∃ N, R.length = N := ⟨_, rfl⟩
    have HN := Lib.hid (And.intro hN (show N ≤ 4096 by rw [← hN]; exact hRN))
    clear hN hRN
    by_cases h13 : E = 13
    · subst h13
      go_enter Tryd.func7, Tryd.ntmps7
      go_wp2_with (first
        | (go_at_call 16; (with_reducible refine HGR.out.mono ?_); rintro e y1 ⟨rfl, hb⟩; have H1 := Lib.hid (bl HB0.out hb); have HX1 := Lib.hid (HX0.out.keep hb); clear hb HGR)
        | (go_at_call 15; (with_reducible refine (fixed_walk _ (HG.out.next H1.out)).mono ?_); rintro e y2 ⟨rfl, hb⟩; have H2 := Lib.hid (bl H1.out hb); have HX2 := Lib.hid (HX1.out.keep hb); obtain ⟨k0, k1, k2, _, _, _⟩ := HX2.out; clear hb HX1)
        | (go_at_call 13; (with_reducible refine (HE.out _ _ _ _ _ _ _ (HBB.out.keep (keep_below H2.out)) (HK.out.keep (keep_below H2.out))).mono ?_); rintro e y3 ⟨V, rfl, hO, hb⟩; obtain ⟨a5, c5, rfl, _⟩ := hO.isB; have H3 := Lib.hid (bl H2.out hb); have HO := Lib.hid hO.asB; clear k0 k1 k2; have HX3 := Lib.hid (HX2.out.keep hb); obtain ⟨k0, k1, k2, _, _, _⟩ := HX3.out; clear hb hO HX2)
        | (go_at_call 18; (with_reducible refine (HRE.out _ _ _ _ _ _ _ (HBB.out.keep (keep_below H3.out)) (HK.out.keep (keep_below H3.out))).mono ?_); rintro e y4 ⟨V, rfl, hO, hb⟩; obtain ⟨a6, c6, rfl, _⟩ := hO.isB; have H4 := Lib.hid (bl H3.out hb); have HO2 := Lib.hid (And.intro (HO.out.keep (keep_below hb)) hO.asB); clear k0 k1 k2; clear hb hO HO)
        | (go_at_call 19; (with_reducible refine (HWY.out _ (HG.out.next H4.out)).mono ?_); rintro e y5 ⟨rfl, hb⟩; have H5 := Lib.hid (bl H4.out hb); have v1 := conv_str (HO2.out.1.keep (keep_below hb)); have v2 := conv_str (HO2.out.2.keep (keep_below hb)); clear hb))
      go_ret
      exact ⟨rfl, H5.out⟩
    · have h13b : (E == 13) = false := by simpa using h13
      clear h13
      go_enter Tryd.func7, Tryd.ntmps7
      go_upto_region 13 with (first
        | (go_at_call 16; (with_reducible refine HGR.out.mono ?_); rintro e y1 ⟨rfl, hb⟩; have H1 := Lib.hid (bl HB0.out hb); have HX1 := Lib.hid (HX0.out.keep hb); clear hb HGR)
        | (go_at_call 15; (with_reducible refine (fixed_walk _ (HG.out.next H1.out)).mono ?_); rintro e y2 ⟨rfl, hb⟩; have H2 := Lib.hid (bl H1.out hb); have HX2 := Lib.hid (HX1.out.keep hb); obtain ⟨k0, k1, k2, _, _, _⟩ := HX2.out; clear hb HX1)
        | (go_at_call 13; (with_reducible refine (HE.out _ _ _ _ _ _ _ (HBB.out.keep (keep_below H2.out)) (HK.out.keep (keep_below H2.out))).mono ?_); rintro e y3 ⟨V, rfl, hO, hb⟩; obtain ⟨a5, c5, rfl, _⟩ := hO.isB; have H3 := Lib.hid (bl H2.out hb); have HO := Lib.hid hO; have HW2 := Lib.hid (inHeap HX2.out.k0); clear k0 k1 k2; have HX3 := Lib.hid (HX2.out.keep hb); obtain ⟨k0, k1, k2, _, _, _⟩ := HX3.out; clear hb hO HX2)
        | (go_at_call 18; (with_reducible refine (HRE.out _ _ _ _ _ _ _ (HBB.out.keep (keep_below H3.out)) (HK.out.keep (keep_below H3.out))).mono ?_); rintro e y4 ⟨V, rfl, hO, hb⟩; obtain ⟨a6, c6, rfl, _⟩ := hO.isB; have H4 := Lib.hid (bl H3.out hb); have HO2 := Lib.hid (And.intro (HO.out.below hb) hO.asB); clear k0 k1 k2; have HX4 := Lib.hid (HX3.out.keep hb); clear hb hO HO HX3)
        | (go_at_call 19; (with_reducible refine (HWY.out _ (HG.out.next H4.out)).mono ?_); rintro e y5 ⟨rfl, hb⟩; have H5 := Lib.hid (bl H4.out hb); have v1 := conv_str ((HO2.out.1.below hb).asB); have v2 := conv_str (HO2.out.2.keep (keep_below hb)); have HO5 := Lib.hid (HO2.out.1.below hb); have HX5 := Lib.hid (HX4.out.keep hb); obtain ⟨k0, k1, k2, _, _, _⟩ := HX5.out; clear hb HO2 HX4)
        | (go_at_call 17; (with_reducible refine (copied_walk _ l n c n' c' a a' bs k (HBB.out.keep (keep_below H5.out)) (HK.out.keep (keep_below H5.out)) (great_tot HGF.out)).mono ?_); rintro e y6 ⟨⟨a3, n3, c3, a4, n4, c4, rfl, hB3, hK3⟩, hb⟩
           have hba := ba y6 (.cells #[.bool l, .slice a3 n3 c3, .slice a4 n4 c4] 25)
           have H6 := Lib.hid (bl (bl H5.out hb) hba)
           have HI6 := Lib.hid (And.intro (hB3.keep (see_below hba)) (hK3.keep (see_below hba)))
           have HC6 := Lib.hid (Box3.new y6 (.bool l) (.slice a3 n3 c3) (.slice a4 n4 c4) 25)
           have HO6 := Lib.hid (HO5.out.below (bl hb hba))
           have HX6 := Lib.hid (HX5.out.keep (bl hb hba))
           have HZ6 := Lib.hid (And.intro hb.size (show ∀ b, (Value.slice a5 R.length c5).ownBlock = some b → b < y5.heap.size from fun b h => (HO5.out.base h).2))
           clear hb hba hB3 hK3 k0 k1 k2 v1 v2 HO5 HX5))
      rw [HN.out.1] at HO6 HZ6 ⊢
      have HW6 := Lib.hid (show (y6.alloc (.cells #[.bool l, .slice a3 n3 c3, .slice a4 n4 c4] 25)).heap.size = y6.heap.size + 1 by simp)
      generalize y6.alloc (.cells #[.bool l, .slice a3 n3 c3, .slice a4 n4 c4] 25) = y7 at *
      by_cases hN0 : N = 0
      · subst hN0
        go_wp2_with (fail)
        go_loopw [51] (fun i y => i = .int .i64 0 ∧ y = y7) (fun _ _ => 0)
        case atStart => exact ⟨rfl, rfl⟩
        case round =>
          obtain ⟨rfl, rfl⟩ := hrel
          obtain ⟨k0, k1, k2, _, _, _⟩ := HX6.out
          obtain ⟨c0, c1, c2, _, _, _⟩ := HC6.out
          have HQ := Lib.hid (And.intro H6.out (And.intro (HI6.out.1.keep (see_keep _ _)) (HI6.out.2.keep (see_keep _ _))))
          go_wp2_with (go_at_call 20; (with_reducible refine (same_walk _ l n c n' c' a a' bs k l n3 c3 n4 c4 a3 a4 bs k (HBB.out.keep (keep_below HQ.out.1)) (HK.out.keep (keep_below HQ.out.1)) HQ.out.2.1 HQ.out.2.2).mono ?_); rintro e y9 ⟨rfl, hb⟩; rw [show same l bs k l bs k = true from same_true.2 ⟨rfl, rfl, rfl⟩]; have H9 := Lib.hid (bl HQ.out.1 hb); clear hb)
          go_ret
          exact ⟨rfl, H9.out⟩
      · obtain ⟨a5, rfl⟩ : ∃ x, a5 = some x := by
          rcases HO6.out.asB.2.2.2.2 with h | ⟨b, o, e, _⟩
          · exact absurd h hN0
          · exact ⟨_, e⟩
        obtain ⟨g, rfl, hg1, hg2, hrow⟩ := HO6.out.cells_at
        rw [HN.out.1] at hrow
        have hg3 := HZ6.out.2 g rfl
        have HInc := Lib.hid (show Inc w g N 0 y5.heap.size y6.heap.size l (.slice a n c) (.slice a' n' c') a3 n3 c3 a4 n4 c4 bs k y7 from
          ⟨H6.out, HX6.out, HC6.out, HI6.out.1, HI6.out.2, fun i _ h => hrow i h, by have h1 := HW2.out; omega, hg3, HZ6.out.1⟩)
        clear hrow hg1 hg2 hg3 hN0 HX6 HC6 HI6
        go_wp2_with (fail)
        go_loopw [51] (fun i y => ∃ j : Nat, i = .int .i64 j ∧ Hid (j ≤ N ∧ Inc w g N j y5.heap.size y6.heap.size l (.slice a n c) (.slice a' n' c') a3 n3 c3 a4 n4 c4 bs k y)) (fun i _ => N - (intOf i).toNat)
        case atStart => exact ⟨0, rfl, Lib.hid ⟨Nat.zero_le _, HInc.out⟩⟩
        case round =>
          obtain ⟨j, rfl, hp⟩ := hrel
          clear HInc
          by_cases hlt : (j : Int) < (N : Int)
          · obtain ⟨v, hv, hz⟩ := hp.out.2.row j (Nat.le_refl _) (by omega)
            unfold bvb at hv
            have HJ := Lib.hid (show j < N ∧ wrap64 ((j : Int) + 1) = ((j + 1 : Nat) : Int) by
              refine ⟨by omega, ?_⟩
              have := HN.out.2; unfold wrap64; omega)
            go_wp2_with (fail)
            go_roundw
            case rel => exact ⟨j + 1, by rw [HJ.out.2], Lib.hid ⟨HJ.out.1, hp.out.2.set _⟩⟩
            case measure => rw [HJ.out.2]; have := HJ.out.1; simp [intOf]; omega
          · obtain ⟨k0, k1, k2, _, _, _⟩ := hp.out.2.box
            obtain ⟨c0, c1, c2, _, _, _⟩ := hp.out.2.cp
            have HQ := Lib.hid (And.intro hp.out.2.below (And.intro (hp.out.2.bytes.keep (see_keep _ _)) (hp.out.2.kids.keep (see_keep _ _))))
            clear hp
            go_wp2_with (go_at_call 20; (with_reducible refine (same_walk _ l n c n' c' a a' bs k l n3 c3 n4 c4 a3 a4 bs k (HBB.out.keep (keep_below HQ.out.1)) (HK.out.keep (keep_below HQ.out.1)) HQ.out.2.1 HQ.out.2.2).mono ?_); rintro e y9 ⟨rfl, hb⟩; rw [show same l bs k l bs k = true from same_true.2 ⟨rfl, rfl, rfl⟩]; have H9 := Lib.hid (bl HQ.out.1 hb); clear hb)
            go_ret
            exact ⟨rfl, H9.out⟩
end Rl
end Go.Proofs.YthlmjcochpodgaaDoor
